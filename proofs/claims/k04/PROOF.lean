import PyProof.Rows.All
import Wide.All
import OpenK.AllK
import Wide.FinOn
import HandS.ForMost
import HandS.ForExc
import HandS.Wide
import HandS.IsInst
import HandS.OwnEq
import HandS.NoneIn
import HandS.RaiseMore
import HandS.Deep
import HandS.TupAny
import HandS.Flow
import HandS.Evl
import HandS.More
import HandS.Style
import KE.SortData
import PyProof.Rows.RegFStrParts
import PySem.Challenge.RW_likehouses_k04_whole_sorts_of_all_houses
import HandS.Conv
import KE.RegKIsAll
set_option Elab.async false
set_option linter.all false
section
set_option maxRecDepth 100000
set_option maxHeartbeats 4000000
namespace LH
open PySem L2
/-! ### heaps -/
/-- all that was tracked but at p stands as it stood -/
def Sb (p : Addr) (H H' : Hp) : Prop := ∀ b o, b ≠ p → H b = some o → H' b = some o
theorem Sb.refl (p : Addr) (H : Hp) : Sb p H H := fun _ _ _ h => h
theorem Sb.trans {p : Addr} {H H1 H2 : Hp} (a : Sb p H H1) (b : Sb p H1 H2) : Sb p H H2 := fun x o n h => b x o n (a x o n h)
theorem Sb.of_same {p : Addr} {H H' : Hp} (a : Same H H') : Sb p H H' := fun x o _ h => a x o h
theorem Sb.new {p q : Addr} {H H' : Hp} {o : HO} (a : Sb p H H') (h : H q = none) : Sb p H (upd H' q o) := fun b u n e => by
  rw [upd_ne (ne_of_none e h)]
  exact a b u n e
theorem Sb.pen {p : Addr} {H H' : Hp} {o : HO} (a : Sb p H H') : Sb p H (upd H' p o) := fun b u n e => by
  rw [upd_ne n]
  exact a b u n e
theorem Same.new {q : Addr} {H H' : Hp} {o : HO} (a : Same H H') (h : H q = none) : Same H (upd H' q o) := fun b u e => by
  rw [upd_ne (ne_of_none e h)]
  exact a b u e
theorem upd_new {H : Hp} {a p : Addr} {o u : HO} (h : H a = some o) (hp : H p = none) : upd H p u a = some o := by
  rw [upd_ne (ne_of_none h hp)]
  exact h
theorem upd_keep {H : Hp} {a p : Addr} {o u : HO} (h : H a = some o) (hp : a ≠ p) : upd H p u a = some o := by
  rw [upd_ne hp]
  exact h
theorem upd_keep' {H : Hp} {a p : Addr} {o u : HO} (h : H a = some o) (hp : p ≠ a) : upd H p u a = some o := by
  rw [upd_ne (Ne.symm hp)]
  exact h
/-- what is free behind was free ahead -/
theorem free_upd {H : Hp} {q p : Addr} {o : HO} (h : upd H p o q = none) : H q = none := by
  unfold upd at h
  split at h
  · cases h
  · exact h
theorem Sb.free {p q : Addr} {H H' : Hp} (a : Sb p H H') (hp : q ≠ p) (h : H' q = none) : H q = none := by
  cases e : H q with
  | none => rfl
  | some o => rw [a q o hp e] at h; cases h
theorem Same.look {H H' : Hp} {a : Addr} {o : HO} (s : Same H H') (h : H a = some o) : H' a = some o := s a o h
theorem Sb.look {p : Addr} {H H' : Hp} {a : Addr} {o : HO} (s : Sb p H H') (n : a ≠ p) (h : H a = some o) : H' a = some o := s a o n h
theorem Sb.look' {p : Addr} {H H' : Hp} {a : Addr} {o : HO} (s : Sb p H H') (n : p ≠ a) (h : H a = some o) : H' a = some o := s a o (Ne.symm n) h
/-- an object that was not there ahead has changed -/
theorem Sb.mut {p l : Addr} {H0 H H' : Hp} (a : Sb p H0 H) (b : Sb l H H') (h : H0 l = none) : Sb p H0 H' := fun x o n e => b x o (ne_of_none e h) (a x o n e)
theorem Same.mut {l : Addr} {H0 H H' : Hp} (a : Same H0 H) (b : Sb l H H') (h : H0 l = none) : Same H0 H' := fun x o e => b x o (ne_of_none e h) (a x o e)
theorem Same.free' {H H' : Hp} (e : Same H H') {l : Addr} (h : H' l = none) : H l = none := e.free h
/-! ### the pen -/
def penK (c : Addr) (t r : Int) : List (Key × V) := [(.inr "cells", .ref c), (.inr "turn", .int t), (.inr "rest", .int r)]
theorem ofS_inj {a b : String} (h : (Str.ofString a) = Str.ofString b) : a = b := by
  rw [Str.ofString_eq_toList, Str.ofString_eq_toList] at h
  have h1 := congrArg (fun z : Str => z.cps.toList) h
  simp only [] at h1
  have h2 : a.toList = b.toList := by
    generalize a.toList = x at h1
    generalize b.toList = y at h1
    induction x generalizing y with
    | nil => cases y with
      | nil => rfl
      | cons => simp at h1
    | cons c r ih => cases y with
      | nil => simp at h1
      | cons d q =>
        simp only [List.map_cons, List.cons.injEq] at h1
        rw [ih _ h1.2, Char.ext (UInt32.toNat_inj.mp h1.1)]
  exact String.toList_inj.mp h2
theorem ofS_iff {a b : String} : (Str.ofString a = Str.ofString b) = (a = b) := propext ⟨ofS_inj, fun h => by rw [h]⟩
theorem key_iff {a b : Str} : ((Sum.inr a : Key) = Sum.inr b) = (a = b) := propext ⟨fun h => Sum.inr.inj h, fun h => by rw [h]⟩
theorem penK_cells (c : Addr) (t r : Int) : valV (penK c t r) (.inr "cells") = some (.ref c) := by
  simp [penK, valV, key_iff, ofS_iff]
theorem penK_turn (c : Addr) (t r : Int) : valV (penK c t r) (.inr "turn") = some (.int t) := by
  simp [penK, valV, key_iff, ofS_iff]
theorem penK_rest (c : Addr) (t r : Int) : valV (penK c t r) (.inr "rest") = some (.int r) := by
  simp [penK, valV, key_iff, ofS_iff]
theorem put_turn (c : Addr) (t r u : Int) : putK (penK c t r) (.inr "turn") (.int u) = penK c u r := by
  simp [penK, putK, key_iff, ofS_iff]
theorem put_rest (c : Addr) (t r u : Int) : putK (penK c t r) (.inr "rest") (.int u) = penK c t u := by
  simp [penK, putK, key_iff, ofS_iff]
theorem make_pen (c : Addr) (t r : Int) : mergeK [] (penK c t r) = penK c t r := by
  simp [penK, mergeK, putK, key_iff, ofS_iff]
/-- a pen stands at p, its cells at c, whose turn is at most n -/
def Pen (H : Hp) (p c : Addr) (n : Nat) : Prop := ∃ (ns : List Int) (t r : Int), H p = some (.dK (penK c t r)) ∧ H c = some (.lst (ns.map V.int)) ∧ ns.length ≤ 63 ∧ 0 ≤ t ∧ t ≤ n ∧ 0 ≤ r
theorem Pen.mono {H : Hp} {p c : Addr} {n m : Nat} (h : Pen H p c n) (l : n ≤ m) : Pen H p c m := by
  obtain ⟨ns, t, r, h1, h2, h3, h4, h5, h6⟩ := h
  exact ⟨ns, t, r, h1, h2, h3, h4, by omega, h6⟩
theorem Pen.same {H H' : Hp} {p c : Addr} {n : Nat} (h : Pen H p c n) (s : Same H H') : Pen H' p c n := by
  obtain ⟨ns, t, r, h1, h2, h3⟩ := h
  exact ⟨ns, t, r, s _ _ h1, s _ _ h2, h3⟩
theorem Pen.ne {H : Hp} {p c q : Addr} {n : Nat} {xs : List V} (h : Pen H p c n) (e : H q = some (.lst xs)) : q ≠ p := by
  obtain ⟨ns, t, r, h1, _⟩ := h
  exact ne_of e h1 (by intro z; cases z)
theorem Pen.neI {H : Hp} {p c q C dx : Addr} {n : Nat} {fs : List (Str × V)} (h : Pen H p c n) (e : H q = some (.ins C dx fs)) : q ≠ p := by
  obtain ⟨ns, t, r, h1, _⟩ := h
  exact ne_of e h1 (by intro z; cases z)
theorem Pen.neT {H : Hp} {p c q : Addr} {n : Nat} {xs : List V} (h : Pen H p c n) (e : H q = some (.tup xs)) : q ≠ p := by
  obtain ⟨ns, t, r, h1, _⟩ := h
  exact ne_of e h1 (by intro z; cases z)
theorem Pen.neN {H : Hp} {p c q : Addr} {n : Nat} (h : Pen H p c n) (e : H q = none) : q ≠ p := by
  obtain ⟨ns, t, r, h1, _⟩ := h
  exact (ne_of_none h1 e).symm
theorem Pen.neC {H : Hp} {p c q : Addr} {n : Nat} (h : Pen H p c n) (e : H q = none) : q ≠ c := by
  obtain ⟨ns, t, r, _, h2, _⟩ := h
  exact (ne_of_none h2 e).symm
theorem Pen.new {H : Hp} {p c q : Addr} {n : Nat} {o : HO} (h : Pen H p c n) (hq : H q = none) : Pen (upd H q o) p c n := h.same (Same.new (Same.refl H) hq)
theorem Pen.sb {H H' : Hp} {p c q : Addr} {n : Nat} (h : Pen H p c n) (s : Sb q H H') (hp : q ≠ p) (hc : q ≠ c) : Pen H' p c n := by
  obtain ⟨ns, t, r, h1, h2, h3⟩ := h
  exact ⟨ns, t, r, s _ _ (Ne.symm hp) h1, s _ _ (Ne.symm hc) h2, h3⟩
/-- an object that is neither the pen nor its cells changes -/
theorem Pen.upd {H : Hp} {p c q : Addr} {n : Nat} {o : HO} (h : Pen H p c n) (hp : q ≠ p) (hc : q ≠ c) : Pen (L2.upd H q o) p c n := by
  obtain ⟨ns, t, r, h1, h2, h3⟩ := h
  exact ⟨ns, t, r, upd_keep h1 (Ne.symm hp), upd_keep h2 (Ne.symm hc), h3⟩
theorem at_in {α : Type} {xs : List α} {i : Int} (h0 : 0 ≤ i) (h1 : i < xs.length) : ∃ v, v ∈ xs ∧ atI xs i = some v := by
  obtain ⟨j, rfl⟩ := Int.eq_ofNat_of_zero_le h0
  have hj : j < xs.length := by omega
  exact ⟨xs[j], List.getElem_mem hj, atI_nat (List.getElem?_eq_getElem hj)⟩
theorem at_mod {α : Type} {xs : List α} (i : Int) (h : 0 < xs.length) : ∃ v, v ∈ xs ∧ atI xs (i % (xs.length : Nat)) = some v :=
  at_in (Int.emod_nonneg i (by omega)) (Int.emod_lt_of_pos i (by omega))
def primes : List V := [.int 2147483647, .int 2147483629, .int 2147483587, .int 2147483579, .int 2147483563]
theorem at_prime (i : Int) : ∃ q : Int, atI [V.int 2147483647, .int 2147483629, .int 2147483587, .int 2147483579, .int 2147483563] (i % 5) = some (.int q) ∧ 0 < q ∧ q ≤ 2147483647 := by
  obtain ⟨v, h, e⟩ := at_mod (xs := primes) i (by decide)
  have z : v = .int 2147483647 ∨ v = .int 2147483629 ∨ v = .int 2147483587 ∨ v = .int 2147483579 ∨ v = .int 2147483563 := by simpa [primes] using h
  rcases z with rfl | rfl | rfl | rfl | rfl <;> exact ⟨_, e, by decide, by decide⟩
theorem perm_cons_erase {α : Type} : ∀ {l : List α} {i : Nat} (h : i < l.length), (l[i] :: l.eraseIdx i).Perm l
  | a :: l, 0, _ => List.Perm.refl _
  | a :: l, i + 1, h => by
    have h' : i < l.length := by simpa using h
    have e : (a :: l).eraseIdx (i + 1) = a :: l.eraseIdx i := rfl
    rw [e]
    show (l[i] :: a :: l.eraseIdx i).Perm (a :: l)
    exact (List.Perm.swap _ _ _).trans (List.Perm.cons _ (perm_cons_erase h'))
theorem cutV_to {xs : List V} {k : Int} (h : 0 ≤ k) : cutV xs none (some k) = xs.take k.toNat := by
  unfold cutV HT.sIx
  simp only [if_neg (show ¬ k < 0 by omega)]
  rw [List.drop_zero, Nat.sub_zero]
  rcases Nat.le_total k.toNat xs.length with h1 | h1
  · rw [Nat.min_eq_left h1]
  · rw [Nat.min_eq_right h1, List.take_of_length_le (Nat.le_refl _), List.take_of_length_le h1]
theorem cutV_from {xs : List V} {k : Int} (h : 0 ≤ k) : cutV xs (some k) none = xs.drop k.toNat := by
  unfold cutV HT.sIx
  simp only [if_neg (show ¬ k < 0 by omega)]
  rcases Nat.le_total k.toNat xs.length with h1 | h1
  · rw [Nat.min_eq_left h1, List.take_of_length_le (by simp)]
  · rw [Nat.min_eq_right h1, List.drop_of_length_le (Nat.le_refl _), List.drop_of_length_le h1, List.take_nil]
theorem cutV_mid {xs : List V} (h : 2 ≤ xs.length) : cutV xs (some 1) (some (-1)) = (xs.drop 1).dropLast := by
  unfold cutV HT.sIx
  simp only [if_neg (show ¬ (1 : Int) < 0 by decide), if_pos (show (-1 : Int) < 0 by decide)]
  rw [List.dropLast_eq_take, List.length_drop]
  have e1 : min (1 : Int).toNat xs.length = 1 := by
    show min 1 xs.length = 1
    omega
  rw [e1]
  congr 1
  omega
/-! ### names -/
def Lt (z : Str) : Prop := ∀ c ∈ z.cps.toList, 97 ≤ c ∧ c ≤ 122
def Nm (z : Str) : Prop := 1 ≤ z.length ∧ z.length ≤ 8 ∧ Lt z
theorem len_app (a b : Str) : (a ++ b).length = a.length + b.length := by
  show (a.cps ++ b.cps).size = _
  rw [Array.size_append]
  rfl
theorem Lt.app {a b : Str} (ha : Lt a) (hb : Lt b) : Lt (a ++ b) := by
  intro c hc
  have e : (a ++ b).cps.toList = a.cps.toList ++ b.cps.toList := by
    show (a.cps ++ b.cps).toList = _
    rw [Array.toList_append]
  rw [e, List.mem_append] at hc
  rcases hc with h | h
  · exact ha c h
  · exact hb c h
theorem Lt.cut {a : Str} (ha : Lt a) (lo hi : Option Int) : Lt (cutS a lo hi) := by
  intro c hc
  have hc' : c ∈ (a.cps.toList.drop (HT.sIx a.length 0 lo)).take (HT.sIx a.length a.length hi - HT.sIx a.length 0 lo) := by
    simpa [cutS] using hc
  exact ha c (List.mem_of_mem_drop (List.mem_of_mem_take hc'))
theorem cutS_to {z : Str} {k : Int} (h : 0 ≤ k) (h2 : k ≤ z.length) : (cutS z none (some k)).length = k.toNat := by
  show (((z.cps.toList.drop 0).take ((if k < 0 then (k + (z.length : Int)).toNat else min k.toNat z.length) - 0)).toArray).size = _
  rw [if_neg (by omega)]
  have : z.cps.toList.length = z.length := rfl
  simp only [List.drop_zero, List.size_toArray, List.length_take]
  omega
theorem cutS_from {z : Str} {k : Int} (h : 0 ≤ k) (h2 : k ≤ z.length) : (cutS z (some k) none).length = z.length - k.toNat := by
  show (((z.cps.toList.drop (if k < 0 then (k + (z.length : Int)).toNat else min k.toNat z.length)).take (z.length - (if k < 0 then (k + (z.length : Int)).toNat else min k.toNat z.length))).toArray).size = _
  rw [if_neg (by omega)]
  have : z.cps.toList.length = z.length := rfl
  simp only [List.size_toArray, List.length_take, List.length_drop]
  omega
theorem joinE (ys : List Str) : (Txt.join (Str.ofString "") ys).cps.toList = (ys.map fun z => z.cps.toList).flatten := by
  rw [TL.join_eq]
  induction ys with
  | nil => rfl
  | cons x r ih =>
    cases r with
    | nil => simp [Str.join]
    | cons y q =>
      have e : Str.join (Str.ofString "") (x :: y :: q) = x ++ (Str.ofString "") ++ Str.join (Str.ofString "") (y :: q) := rfl
      rw [e]
      have e2 : (x ++ (Str.ofString "") ++ Str.join (Str.ofString "") (y :: q)).cps.toList = x.cps.toList ++ (Str.join (Str.ofString "") (y :: q)).cps.toList := by
        show ((x.cps ++ (Str.ofString "").cps) ++ (Str.join (Str.ofString "") (y :: q)).cps).toList = _
        have e3 : (Str.ofString "").cps = #[] := by decide +kernel
        rw [e3]
        simp
      rw [e2, ih]
      rfl
/-- signs of one letter each, joined -/
theorem join_ones {ys : List Str} (h : ∀ z ∈ ys, z.length = 1 ∧ Lt z) : (Txt.join (Str.ofString "") ys).length = ys.length ∧ Lt (Txt.join (Str.ofString "") ys) := by
  have e := joinE ys
  constructor
  · have : (Txt.join (Str.ofString "") ys).length = (Txt.join (Str.ofString "") ys).cps.toList.length := rfl
    rw [this, e]
    clear this e
    induction ys with
    | nil => rfl
    | cons x r ih =>
      have h1 := (h x List.mem_cons_self).1
      have h2 : x.cps.toList.length = 1 := h1
      rw [List.map_cons, List.flatten_cons, List.length_append, ih (fun z hz => h z (List.mem_cons_of_mem _ hz)), h2, List.length_cons]
      omega
  · intro c hc
    rw [e, List.mem_flatten] at hc
    obtain ⟨l, hl, hc⟩ := hc
    obtain ⟨z, hz, rfl⟩ := List.mem_map.mp hl
    exact (h z hz).2 c hc
theorem sum_ones {ys : List Str} (h : ∀ z ∈ ys, z.length = 1 ∧ Lt z) : (ys.map (·.length)).sum = ys.length := by
  induction ys with
  | nil => rfl
  | cons x r ih =>
    rw [List.map_cons, List.sum_cons, ih (fun z hz => h z (List.mem_cons_of_mem _ hz)), (h x List.mem_cons_self).1, List.length_cons]
    omega
def words1 : List Str := ["room", "door", "house", "first", "left", "right", "odd", "at", "do", "wall"]
def words2 : List Str := ["ever", "never", "leap", "go", "back", "on", "a", "b"]
theorem words_ok : ∀ z ∈ words1 ++ words2, Nm z := by
  unfold Nm Lt
  decide +kernel
theorem letters_ok : Lt "abcdefghijklmnopqrstuvwxyz" := by
  unfold Lt
  decide +kernel
theorem letters_len : (Str.ofString "abcdefghijklmnopqrstuvwxyz").length = 26 := by decide +kernel
theorem at_two {a b i : Int} (h0 : 0 ≤ i) (h1 : i < 2) : ∃ x, atI [V.int a, V.int b] i = some (.int x) ∧ (x = a ∨ x = b) := by
  have : i = 0 ∨ i = 1 := by omega
  rcases this with rfl | rfl
  · exact ⟨a, rfl, .inl rfl⟩
  · exact ⟨b, rfl, .inr rfl⟩
theorem lenL (z : Str) : z.cps.toList.length = z.length := rfl
theorem len1 (c : Nat) : (⟨#[c]⟩ : Str).length = 1 := rfl
theorem Lt.one {c : Nat} (h : 97 ≤ c ∧ c ≤ 122) : Lt ⟨#[c]⟩ := by
  intro y hy
  have : y = c := by simpa using hy
  rw [this]
  exact h
theorem small16 {n : Nat} (h : n ≤ 1000) : n ≤ sizeLine := by rw [sizeLine_eq]; omega
end LH
end
section
set_option maxRecDepth 100000
set_option maxHeartbeats 4000000
namespace LH
open PySem L2
/-! ### named readings -/
def rBl (x : V) (f : Bool → Prop) : Prop := ∃ k, x = .bl k ∧ f k
def rPt (x : V) (f : Option Int → Prop) : Prop := ∃ i, x = .int i ∧ f (some i)
def rDGet (x y : V) (H : Hp) (f : V → Prop) : Prop := ∃ a v, x = .ref a ∧ DGet H a y (some v) ∧ f v
def rDPut (x y v : V) (H : Hp) (f : Hp → Prop) : Prop := ∃ a H4, x = .ref a ∧ DPut H a y v H4 ∧ f H4
def rFldR (K : PySem.W.Frag) (x : V) (n : Str) (H : Hp) (f : V → Prop) : Prop := ∃ a C dx fs v, x = .ref a ∧ H a = some (.ins C dx fs) ∧ Cls K C ∧ NoAttr K C n ∧ fs.lookup n = some v ∧ f v
def rFldS (K : PySem.W.Frag) (x y : V) (n : Str) (H : Hp) (f : Hp → Prop) : Prop := ∃ a C dx fs, x = .ref a ∧ H a = some (.ins C dx fs) ∧ Cls K C ∧ NoAttr K C n ∧ fs.length < 1000 ∧ f (upd H a (.ins C dx (putF n y fs)))
def rPr (vs : List V) (f : V → V → Prop) : Prop := ∃ v w, vs = [v, w] ∧ f v w
def rTy (K : PySem.W.Frag) (T : String) (x : V) (H : Hp) (R : Prop) : Prop := tyV K T x H ∧ R
def rMkL (xs : List V) (H : Hp) (f : Addr → Hp → Prop) : Prop := xs.length ≤ sizeLine ∧ ∀ p, H p = none → f p (upd H p (.lst xs))
def rMkT (xs : List V) (H : Hp) (f : Addr → Hp → Prop) : Prop := xs.length ≤ sizeLine ∧ ∀ p, H p = none → f p (upd H p (.tup xs))
def rDs (p : Addr) (ps : List (V × V)) (H : Hp) (f : Hp → Prop) : Prop := H p = some (.dK []) ∧ ∃ kvs : List (Key × V), ps = kvs.map (fun kv => (kV kv.1, kv.2)) ∧ kvs.length ≤ 15 ∧ f (upd H p (.dK (mergeK [] kvs)))
def rNew (H : Hp) (f : Addr → Prop) : Prop := ∀ p, H p = none → f p
/-- a new object o, then f -/
def rNO (H : Hp) (o : HO) (f : Addr → Hp → Prop) : Prop := ∀ p, H p = none → f p (upd H p o)
theorem s_nu {H : Hp} {o : HO} {f : Addr → Hp → Prop} (q : ∀ p, H p = none → f p (upd H p o)) : rNO H o f := q
theorem s_no {H : Hp} {o : HO} {f : Addr → Hp → Prop} (q : ∀ p H', H p = none → Same H H' → H' p = some o → f p H') : rNO H o f := fun p hp => q p _ hp (Same.new (Same.refl H) hp) upd_same
/-- the object at l becomes o, then f -/
def rMu (H : Hp) (l : Addr) (o : HO) (f : Hp → Prop) : Prop := f (upd H l o)
theorem s_mu {H : Hp} {l : Addr} {o : HO} {f : Hp → Prop} (q : ∀ H', Sb l H H' → H' l = some o → f H') : rMu H l o f := q _ ((Sb.refl l H).pen) upd_same
theorem s_muU {H : Hp} {l : Addr} {o : HO} {f : Hp → Prop} (q : f (upd H l o)) : rMu H l o f := q
def rTr (K : PySem.W.Frag) (x : V) (H : Hp) (f : Bool → Prop) : Prop := ∃ k, TruV K x H k ∧ f k
def rStr (x : V) (R : Prop) : Prop := (∃ a, x = .str a) ∧ R
/-! ### built-ins by named readings -/
def rLenL (K : PySem.W.Frag) : List V → Hp → VK → Prop := fun xs H Q => ∃ p ys, xs = [.ref p] ∧ (SqL K H p ys ∨ SqT K H p ys) ∧ Q (.int ys.length) H
def rLenZ : List V → Hp → VK → Prop := fun xs H Q => ∃ z : Str, xs = [.str z] ∧ z.length ≤ sizeLine ∧ Q (.int z.length) H
def rAbs : List V → Hp → VK → Prop := fun xs H Q => ∃ i, xs = [.int i] ∧ Q (.int (if i < 0 then -i else i)) H
def rLstOf (K : PySem.W.Frag) : List V → Hp → VK → Prop := fun xs H Q => ∃ p ys, xs = [.ref p] ∧ (SqL K H p ys ∨ SqT K H p ys) ∧ ∀ l, H l = none → Q (.ref l) (upd H l (.lst ys))
def rTupOf (K : PySem.W.Frag) : List V → Hp → VK → Prop := fun xs H Q => ∃ p ys, xs = [.ref p] ∧ ((SqL K H p ys ∧ ∀ l, H l = none → Q (.ref l) (upd H l (.tup ys))) ∨ (SqT K H p ys ∧ Q (.ref p) H))
def rStrS : List V → Hp → VK → Prop := fun xs H Q => ∃ a, xs = [.str a] ∧ Q (.str a) H
def rInt1 : List V → Hp → VK → Prop := fun xs H Q => ∃ i, xs = [.int i] ∧ Q (.int i) H
def rIntB : List V → Hp → VK → Prop := fun xs H Q => ∃ b, xs = [.bl b] ∧ Q (.int (if b then 1 else 0)) H
def rAddS : R2 := fun x y H Q => ∃ i j, x = .str i ∧ y = .str j ∧ i.length + j.length ≤ sizeLine ∧ Q (.str (i ++ j)) H
section
variable {X : Cx}
theorem call_lenL : CallR X (.builtin "len") (rLenL X.K) := call_len_seq
theorem call_absI : CallR X (.builtin "abs") rAbs := call_abs
theorem call_lstOf : CallR X (.type "list") (rLstOf X.K) := call_list_of
theorem call_tupOf : CallR X (.type "tuple") (rTupOf X.K) := call_tuple_of
theorem call_strS : CallR X (.type "str") rStrS := SkE.call_str_str
theorem call_lenZ : CallR X (.builtin "len") rLenZ := fun pins s σ H xs us Q I r ⟨z, e, l, q⟩ => call_len pins s σ H xs us Q I r ⟨.str z, z.length, e, ⟨l, rfl⟩, q⟩
theorem ix_listK {K : PySem.W.Frag} (h : X.K = K) : IxR X (rIxL K) := h ▸ ix_list
theorem ix_tupK {K : PySem.W.Frag} (h : X.K = K) : IxR X (rIxT K) := h ▸ ix_tup
theorem call_lenLK {K : PySem.W.Frag} (h : X.K = K) : CallR X (.builtin "len") (rLenL K) := h ▸ call_lenL
theorem sl_listK {K : PySem.W.Frag} (h : X.K = K) : SlR X (rSlL K) := h ▸ sl_list
theorem op_addS : OpR X (binaryOp .Add) rAddS := op_add_str
end
def rNeL (K : PySem.W.Frag) : R2 := fun x y H Q => ∃ a b xs ys, x = .ref a ∧ y = .ref b ∧ SqL K H a xs ∧ SqL K H b ys ∧ (xs = [] ∨ ys = []) ∧ Q (.bl (!decide (xs.length = ys.length))) H
def rEqL (K : PySem.W.Frag) : R2 := fun x y H Q => ∃ a b xs ys, x = .ref a ∧ y = .ref b ∧ SqL K H a xs ∧ SqL K H b ys ∧ (xs = [] ∨ ys = []) ∧ Q (.bl (decide (xs.length = ys.length))) H
section
variable {X : Cx}
theorem isL_of {h : Heap} {a : Addr} {its : Array Value} (p : PlainL h a its) : h.IsList a its := by
  obtain ⟨o, m, e, c, d, q⟩ := p
  exact ⟨o, e, c, m, q⟩
theorem op_neNil (hu : X.A.units < cLine) : OpR X (compareOp .NotEq) (rNeL X.K) := by
  intro pins s σ H x y v u Q I rx ry h
  obtain ⟨a, b, xs, ys, rfl, rfl, ha, hb, h0, q⟩ := h
  cases rx
  cases ry
  obtain ⟨i1, r1, p1, z1⟩ := I.list ha
  obtain ⟨i2, r2, p2, z2⟩ := I.list hb
  have e1 := r1.length
  have e2 := r2.length
  by_cases c : xs.length = ys.length
  · have x0 : xs.length = 0 := by
      rcases h0 with z | z
      · rw [z]; rfl
      · rw [c, z]; rfl
    have this : i1.toArray.size = 0 := by rw [List.size_toArray]; omega
    refine SeqAt.RcNeAt.lists (e := fun _ => true) (isL_of p1) (isL_of p2) (by simp; omega) hu (fun j h1 h2 => absurd h1 (by rw [this]; exact Nat.not_lt_zero _)) _ _ _ _ ?_
    refine ⟨.bl _, H, I, ?_, q⟩
    rw [decide_eq_true c]
    show Value.bool _ = Value.bool _
    rw [this]
    rfl
  · refine SeqAt.RcNeAt.lists_lengths (isL_of p1) (isL_of p2) (by simp; omega) hu _ _ _ _ ?_
    refine ⟨.bl _, H, I, ?_, q⟩
    rw [decide_eq_false c]
    rfl
theorem op_eqNil (hu : X.A.units < cLine) : OpR X (compareOp .Eq) (rEqL X.K) := by
  intro pins s σ H x y v u Q I rx ry h
  obtain ⟨a, b, xs, ys, rfl, rfl, ha, hb, h0, q⟩ := h
  cases rx
  cases ry
  obtain ⟨i1, r1, p1, z1⟩ := I.list ha
  obtain ⟨i2, r2, p2, z2⟩ := I.list hb
  have e1 := r1.length
  have e2 := r2.length
  by_cases c : xs.length = ys.length
  · have x0 : xs.length = 0 := by
      rcases h0 with z | z
      · rw [z]; rfl
      · rw [c, z]; rfl
    have this : i1.toArray.size = 0 := by rw [List.size_toArray]; omega
    refine SeqAt.eq_listAt (e := fun _ => true) (isL_of p1) (isL_of p2) (by simp; omega) hu (fun j h1 h2 => absurd h1 (by rw [this]; exact Nat.not_lt_zero _)) ?_
    refine ⟨.bl _, H, I, ?_, q⟩
    rw [decide_eq_true c]
    show Value.bool _ = Value.bool _
    rw [this]
    rfl
  · refine SeqAt.eq_list_lengthsAt (isL_of p1) (isL_of p2) (by simp; omega) hu ?_
    refine ⟨.bl _, H, I, ?_, q⟩
    rw [decide_eq_false c]
    rfl
end
theorem s_neL {K : PySem.W.Frag} {H : Hp} {Q : VK} {a b : Addr} {xs ys : List V} (ha : SqL K H a xs) (hb : SqL K H b ys) (h0 : xs = [] ∨ ys = []) (q : Q (.bl (!decide (xs.length = ys.length))) H) : rNeL K (.ref a) (.ref b) H Q := ⟨a, b, xs, ys, rfl, rfl, ha, hb, h0, q⟩
theorem s_eqL {K : PySem.W.Frag} {H : Hp} {Q : VK} {a b : Addr} {xs ys : List V} (ha : SqL K H a xs) (hb : SqL K H b ys) (h0 : xs = [] ∨ ys = []) (q : Q (.bl (decide (xs.length = ys.length))) H) : rEqL K (.ref a) (.ref b) H Q := ⟨a, b, xs, ys, rfl, rfl, ha, hb, h0, q⟩
section
variable {σ σ' : St} {H : Hp} {Q : VK} {D : Ends} {K : PySem.W.Frag}
theorem s_var {i : Nat} {v : V} (h : σ[i]? = some (some v)) (q : Q v H) : tVar i σ H Q := ⟨v, h, q⟩
theorem s_c {v : V} (q : Q v H) : tC v σ H Q := q
theorem s_op {r : R2} {ta tb : TE} (q : ta σ H fun x H1 => tb σ H1 fun y H2 => r x y H2 Q) : tOp r ta tb σ H Q := q
theorem s_un {r : V → Hp → VK → Prop} {ta : TE} (q : ta σ H fun x H1 => r x H1 Q) : tUn r ta σ H Q := q
theorem s_I0 {g : Int → Int → V} {i j : Int} (q : Q (g i j) H) : rI0 g (.int i) (.int j) H Q := ⟨i, j, rfl, rfl, q⟩
theorem s_I {C : Int → Int → Prop} {g : Int → Int → V} {i j : Int} (c : C i j) (q : Q (g i j) H) : rI C g (.int i) (.int j) H Q := ⟨i, j, rfl, rfl, c, q⟩
theorem s_rU {g : Int → V} {i : Int} (q : Q (g i) H) : rU g (.int i) H Q := ⟨i, rfl, q⟩
theorem s_test {t : TE} {Q : Bool → Hp → Prop} (q : t σ H fun x H' => rBl x fun k => Q k H') : tTest t σ H Q := q
theorem s_B {t : TE} {Q : Bool → Hp → Prop} (q : t σ H fun x H' => rBl x fun k => Q k H') : tB t σ H Q := q
theorem s_bl {b : Bool} {Q : Bool → Prop} (q : Q b) : rBl (.bl b) Q := ⟨b, rfl, q⟩
theorem s_seq {t u : TS} (q : t { D with nx := u D } σ H) : tSeq t u D σ H := q
theorem s_cut {t u : TS} (Mid : St → Hp → Prop) (m : t { D with nx := Mid } σ H) (q : ∀ σ' H', Mid σ' H' → u D σ' H') : Evl.tCut t u D σ H := ⟨Mid, m, q⟩
theorem s_next (q : D.nx σ H) : tNext D σ H := q
theorem s_asg {te : TE} {i : Nat} (q : te σ H fun x H1 => D.nx (σ.set i (some x)) H1) : tAsg te (gName i) D σ H := q
theorem s_asgT {te : TE} {g : TG} (q : te σ H fun x H1 => g x σ H1 D.nx) : tAsg te g D σ H := q
theorem s_gName {i : Nat} {v : V} {Q : St → Hp → Prop} (q : Q (σ.set i (some v)) H) : gName i v σ H Q := q
theorem s_gNil {Q : St → Hp → Prop} (q : Q σ H) : gNil [] σ H Q := ⟨rfl, q⟩
theorem s_gCons {t : TG} {u : TGs} {v : V} {r : List V} {Q : St → Hp → Prop} (q : t v σ H fun σ' H' => u r σ' H' Q) : gCons t u (v :: r) σ H Q := ⟨v, r, rfl, q⟩
theorem s_gTup {n : Nat} {t : TGs} {a : Addr} {xs : List V} {Q : St → Hp → Prop} (h : SqT K H a xs) (l : xs.length = n) (q : t xs σ H Q) : gTup K n t (.ref a) σ H Q := ⟨a, xs, rfl, h, l, q⟩
theorem s_par {i j : Nat} {ta : TA} (q : ta σ H fun vs H1 => rPr vs fun v w => D.nx ((σ.set i (some v)).set j (some w)) H1) : tPar i j ta D σ H := q
theorem s_pair {v w : V} {Q : V → V → Prop} (q : Q v w) : rPr [v, w] Q := ⟨v, w, rfl, q⟩
def rTri (vs : List V) (f : V → V → V → Prop) : Prop := ∃ v w u, vs = [v, w, u] ∧ f v w u
theorem s_par3 {i j l : Nat} {ta : TA} (q : ta σ H fun vs H1 => rTri vs fun v w u => D.nx (((σ.set i (some v)).set j (some w)).set l (some u)) H1) : tPar3 i j l ta D σ H := q
theorem s_tri {v w u : V} {Q : V → V → V → Prop} (q : Q v w u) : rTri [v, w, u] Q := ⟨v, w, u, rfl, q⟩
theorem s_ret {te : TE} (q : te σ H D.rt) : tRet te D σ H := q
theorem s_retN (q : D.rt .non H) : tRetN D σ H := q
theorem s_drop {te : TE} (q : te σ H fun _ H1 => D.nx σ H1) : tDrop te D σ H := q
theorem s_ifS {c : TT} {t u : TS} (q : c σ H fun b H1 => if b = true then t D σ H1 else u D σ H1) : tIfS c t u D σ H := q
theorem s_if {c : TT} {ta tb : TE} (q : c σ H fun b H1 => if b = true then ta σ H1 Q else tb σ H1 Q) : tIf c ta tb σ H Q := q
theorem s_and {t u : TT} {Q : Bool → Hp → Prop} (q : t σ H fun c H1 => if c = true then u σ H1 Q else Q false H1) : tAnd t u σ H Q := q
theorem s_or {t u : TT} {Q : Bool → Hp → Prop} (q : t σ H fun c H1 => if c = true then Q true H1 else u σ H1 Q) : tOr t u σ H Q := q
theorem s_not {t : TT} {Q : Bool → Hp → Prop} (q : t σ H fun c H1 => Q (!c) H1) : tNot t σ H Q := q
theorem s_yes {Q : Bool → Hp → Prop} (q : Q true H) : tYes σ H Q := q
theorem s_andV {ta tb : TE} (q : ta σ H fun x H1 => rBl x fun c => if c = true then tb σ H1 Q else Q (.bl false) H1) : tAndV ta tb σ H Q := q
theorem s_orV {ta tb : TE} (q : ta σ H fun x H1 => rBl x fun c => if c = true then Q (.bl true) H1 else tb σ H1 Q) : tOrV ta tb σ H Q := q
theorem s_notV {ta : TE} (q : ta σ H fun x H1 => rBl x fun c => Q (.bl (!c)) H1) : tNotV ta σ H Q := q
theorem s_chain {r r' : R2} {ta tb tc : TE} (q : ta σ H fun x H1 => tb σ H1 fun y H2 => r x y H2 fun z H3 => rBl z fun k => (if k = true then tc σ H3 fun w' H4 => r' y w' H4 Q else Q (.bl false) H3)) : tChain r r' ta tb tc σ H Q := q
theorem s_itT {A B : Prop} (q : A) : if true = true then A else B := iteT q
theorem s_itF {A B : Prop} (q : B) : if false = true then A else B := iteF q
/-- dicts -/
theorem s_dget {td ty : TE} (q : td σ H fun x H1 => ty σ H1 fun y H2 => rDGet x y H2 fun v => Q v H2) : tDGet td ty σ H Q := q
theorem s_dgetS {a : Addr} {k : Str} {kvs : List (Key × V)} {v : V} {Q : V → Prop} (h : H a = some (.dK kvs)) (e : valV kvs (.inr k) = some v) (q : Q v) : rDGet (.ref a) (.str k) H Q :=
  ⟨a, v, rfl, by rw [← e]; exact DGet.k (k := Sum.inr k) h, q⟩
theorem s_dput {td ty tv : TE} (q : tv σ H fun v H1 => td σ H1 fun x H2 => ty σ H2 fun y H3 => rDPut x y v H3 fun H4 => D.nx σ H4) : sDPut td ty tv D σ H := q
theorem s_dputS {a : Addr} {k : Str} {v : V} {kvs kvs' : List (Key × V)} {Q : Hp → Prop} (h : H a = some (.dK kvs)) (e : putK kvs (.inr k) v = kvs') (l : kvs.length < sizeLine) (q : rMu H a (.dK kvs') Q) : rDPut (.ref a) (.str k) v H Q :=
  ⟨a, upd H a (.dK kvs'), rfl, by rw [← e]; exact DPut.k (k := Sum.inr k) h l, q⟩
theorem s_disp {trs : List (TE × TE)} (q : rNO H (.dK []) fun p H1 => tPairs trs σ H1 fun ps H2 => rDs p ps H2 fun H3 => Q (.ref p) H3) : tDisp trs σ H Q := q
theorem s_ds {p : Addr} {ps : List (V × V)} {kvs kvs' : List (Key × V)} {f : Hp → Prop} (h : H p = some (.dK [])) (e : ps = kvs.map (fun kv => (kV kv.1, kv.2))) (l : kvs.length ≤ 15) (m : mergeK [] kvs = kvs') (q : rMu H p (.dK kvs') f) : rDs p ps H f := ⟨h, kvs, e, l, by rw [m]; exact q⟩
theorem s_dnew (q : rNO H (.dK []) fun p H' => Q (.ref p) H') : tDNewK σ H Q := q
theorem s_new {f : Addr → Prop} (q : ∀ p, H p = none → f p) : rNew H f := q
theorem s_pnil {Q : List (V × V) → Hp → Prop} (q : Q [] H) : tPairs [] σ H Q := q
theorem s_pcons {tk tv : TE} {r : List (TE × TE)} {Q : List (V × V) → Hp → Prop} (q : tk σ H fun x H1 => tv σ H1 fun y H2 => tPairs r σ H2 fun ps H3 => Q ((x, y) :: ps) H3) : tPairs ((tk, tv) :: r) σ H Q := q
/-- lists, tuples, arguments -/
theorem s_lst {t : TA} (q : t σ H fun xs H1 => rMkL xs H1 fun p H2 => Q (.ref p) H2) : tLst t σ H Q := q
theorem s_tup {t : TA} (q : t σ H fun xs H1 => rMkT xs H1 fun p H2 => Q (.ref p) H2) : tTup t σ H Q := q
theorem s_mkL {xs : List V} {f : Addr → Hp → Prop} (l : xs.length ≤ 1000) (q : rNO H (.lst xs) f) : rMkL xs H f := ⟨Nat.le_of_lt (small1000 l), q⟩
theorem s_mkT {xs : List V} {f : Addr → Hp → Prop} (l : xs.length ≤ 1000) (q : rNO H (.tup xs) f) : rMkT xs H f := ⟨Nat.le_of_lt (small1000 l), q⟩
theorem s_nil {Q : List V → Hp → Prop} (q : Q [] H) : tNil σ H Q := q
theorem s_cons {ta : TE} {tr : TA} {Q : List V → Hp → Prop} (q : ta σ H fun x H1 => tr σ H1 fun xs H2 => Q (x :: xs) H2) : tCons ta tr σ H Q := q
theorem s_CB {r : List V → Hp → VK → Prop} {t : TA} (q : t σ H fun vs H1 => r vs H1 Q) : tCB r t σ H Q := q
theorem s_call {sp : Sp} {E : XK} {t : TA} (q : t σ H fun vs H1 => sp vs H1 Q E) (m : ∀ f g : List V → Hp → Prop, (∀ vs H', f vs H' → g vs H') → t σ H f → t σ H g) : tCall sp [] E t σ H Q := m _ _ (fun vs H' z => by rw [List.append_nil]; exact z) q
theorem s_call1 {sp : Sp} {E : XK} {t : TA} (q : t σ H fun vs H1 => sp (vs ++ []) H1 Q E) : tCall sp [] E t σ H Q := q
theorem s_meth {C : Addr} {m : Str} {sp : Sp} {E : XK} {ta : TE} {t : TA} {P : Addr → Addr → List (Str × V) → Prop} (q : ta σ H fun x H1 => ∃ a dx fs, x = .ref a ∧ H1 a = some (.ins C dx fs) ∧ fs.lookup m = none ∧ t σ H1 fun vs H2 => sp (x :: (vs ++ [])) H2 Q E) : tMeth C m sp [] E ta t σ H Q := q
theorem s_lenL {p : Addr} {ys : List V} (h : SqL K H p ys ∨ SqT K H p ys) (q : Q (.int ys.length) H) : rLenL K [.ref p] H Q := ⟨p, ys, rfl, h, q⟩
theorem s_lenZ {z : Str} (h : z.length ≤ sizeLine) (q : Q (.int z.length) H) : rLenZ [.str z] H Q := ⟨z, rfl, h, q⟩
theorem s_lstOf {p : Addr} {ys : List V} (h : SqL K H p ys ∨ SqT K H p ys) (q : rNO H (.lst ys) fun l H' => Q (.ref l) H') : rLstOf K [.ref p] H Q := ⟨p, ys, rfl, h, q⟩
theorem s_tupOfL {p : Addr} {ys : List V} (h : SqL K H p ys) (q : rNO H (.tup ys) fun l H' => Q (.ref l) H') : rTupOf K [.ref p] H Q := ⟨p, ys, rfl, .inl ⟨h, q⟩⟩
theorem s_strS {z : Str} (q : Q (.str z) H) : rStrS [.str z] H Q := ⟨z, rfl, q⟩
theorem s_addS {i j : Str} (l : i.length + j.length ≤ sizeLine) (q : Q (.str (i ++ j)) H) : rAddS (.str i) (.str j) H Q := ⟨i, j, rfl, rfl, l, q⟩
theorem s_abs {i : Int} (q : Q (.int (if i < 0 then -i else i)) H) : rAbs [.int i] H Q := ⟨i, rfl, q⟩
theorem s_ixL {p : Addr} {xs : List V} {i : Int} {v : V} (h : SqL K H p xs) (e : atI xs i = some v) (q : Q v H) : rIxL K (.ref p) (.int i) H Q := ⟨p, xs, i, v, rfl, rfl, h, e, q⟩
theorem s_ixT {p : Addr} {xs : List V} {i : Int} {v : V} (h : SqT K H p xs) (e : atI xs i = some v) (q : Q v H) : rIxT K (.ref p) (.int i) H Q := ⟨p, xs, i, v, rfl, rfl, h, e, q⟩
theorem s_ixS {z : Str} {i : Int} {c : Nat} (h : z.length ≤ sizeLine) (e : atI z.cps.toList i = some c) (q : Q (.str ⟨#[c]⟩) H) : rIxS (.str z) (.int i) H Q := ⟨z, i, c, rfl, rfl, h, e, q⟩
theorem s_sl {r : V → Option Int → Option Int → Hp → VK → Prop} {te : TE} {tl th : TO} (q : te σ H fun x H1 => tl σ H1 fun l H2 => th σ H2 fun u H3 => r x l u H3 Q) : tSl r te tl th σ H Q := q
theorem s_noPart {Q : Option Int → Hp → Prop} (q : Q none H) : tNoPart σ H Q := q
theorem s_part {t : TE} {Q : Option Int → Hp → Prop} (q : t σ H fun x H1 => rPt x fun i => Q i H1) : tPart t σ H Q := q
theorem s_pt {i : Int} {Q : Option Int → Prop} (q : Q (some i)) : rPt (.int i) Q := ⟨i, rfl, q⟩
theorem s_slL {p : Addr} {xs : List V} {lo hi : Option Int} (h : SqL K H p xs) (q : rNO H (.lst (cutV xs lo hi)) fun l H' => Q (.ref l) H') : rSlL K (.ref p) lo hi H Q := ⟨p, xs, rfl, h, q⟩
theorem s_slS {z : Str} {lo hi : Option Int} (h : z.length ≤ sizeLine) (q : Q (.str (cutS z lo hi)) H) : rSlS (.str z) lo hi H Q := ⟨z, rfl, h, q⟩
theorem s_cat {l b : Addr} {xs zs : List V} (h : H l = some (.lst xs)) (h2 : H b = some (.lst zs)) (hz : xs.length + zs.length ≤ 1000) (q : rNO H (.lst (xs ++ zs)) fun p H' => Q (.ref p) H') : rCat (.ref l) (.ref b) H Q :=
  ⟨l, b, xs, zs, rfl, rfl, h, h2, Nat.le_of_lt (small1000 hz), q⟩
theorem s_bm {T : String} {r : V → List V → Hp → VK → Prop} {to : TE} {t : TA} (q : to σ H fun x H1 => rTy K T x H1 (t σ H1 fun xs H2 => r x xs H2 Q)) : tBM K T r to t σ H Q := q
theorem s_bm0 {T : String} {r : V → List V → Hp → VK → Prop} {to : TE} (q : to σ H fun x H1 => rTy K T x H1 (r x [] H1 Q)) : tBM0 K T r to σ H Q := q
theorem s_tyL {p : Addr} {xs : List V} {R : Prop} (h : SqL K H p xs) (q : R) : rTy K "list" (.ref p) H R := ⟨.inl ⟨rfl, xs, h⟩, q⟩
theorem s_append {l : Addr} {xs : List V} {y : V} (h : H l = some (.lst xs)) (hz : xs.length < sizeLine) (q : rMu H l (.lst (xs ++ [y])) fun H' => Q .non H') : rAppend (.ref l) [y] H Q := ⟨l, xs, y, rfl, rfl, h, hz, q⟩
theorem s_popAt {l : Addr} {xs : List V} {i : Int} {k : Nat} {y : V} (h : H l = some (.lst xs)) (h1 : -(2 ^ 63) ≤ i) (h2 : i < 2 ^ 63) (e : seqIndex? i xs.length = some k) (ey : xs[k]? = some y) (q : rMu H l (.lst (xs.eraseIdx k)) fun H' => Q y H') : rPopAt (.ref l) [.int i] H Q :=
  ⟨l, xs, i, k, y, rfl, rfl, h, h1, h2, e, ey, q⟩
theorem s_clear {l : Addr} {xs : List V} (h : H l = some (.lst xs)) (q : rMu H l (.lst []) fun H' => Q .non H') : rClear (.ref l) [] H Q := ⟨l, xs, rfl, rfl, h, q⟩
theorem s_reverse {l : Addr} {xs : List V} (h : H l = some (.lst xs)) (q : rMu H l (.lst xs.reverse) fun H' => Q .non H') : rReverse (.ref l) [] H Q := ⟨l, xs, rfl, rfl, h, q⟩
theorem s_eq {x y : V} {b : Bool} (c : scal x y = true) (e : decide (x = y) = b) (q : Q (.bl b) H) : rEq x y H Q := ⟨c, by rw [e]; exact q⟩
theorem s_ne {x y : V} {b : Bool} (c : scal x y = true) (e : decide (x = y) = b) (q : Q (.bl (!b)) H) : rNe x y H Q := ⟨c, by rw [e]; exact q⟩
theorem s_eqI {i j : Int} (q : Q (.bl (decide (i = j))) H) : rEq (.int i) (.int j) H Q := s_eq rfl (b := decide (i = j)) (by simp) q
theorem s_neI {i j : Int} (q : Q (.bl (!decide (i = j))) H) : rNe (.int i) (.int j) H Q := s_ne rfl (b := decide (i = j)) (by simp) q
theorem s_neS {i j : Str} (q : Q (.bl (!decide (i = j))) H) : rNe (.str i) (.str j) H Q := s_ne rfl (b := decide (i = j)) (by simp) q
theorem s_eqS {i j : Str} (q : Q (.bl (decide (i = j))) H) : rEq (.str i) (.str j) H Q := s_eq rfl (b := decide (i = j)) (by simp) q
theorem s_fld {ta : TE} {f : Str} (q : ta σ H fun x H1 => rFldR K x f H1 fun v => Q v H1) : tFld K ta f σ H Q := q
theorem s_fldV {a C dx : Addr} {fs : List (Str × V)} {f : Str} {v : V} {Q : V → Prop} (h : H a = some (.ins C dx fs)) (c : Cls K C) (n : NoAttr K C f) (e : fs.lookup f = some v) (q : Q v) : rFldR K (.ref a) f H Q := ⟨a, C, dx, fs, v, rfl, h, c, n, e, q⟩
theorem s_fldS {ta tv : TE} {f : Str} (q : tv σ H fun y H1 => ta σ H1 fun x H2 => rFldS K x y f H2 fun H3 => D.nx σ H3) : sFld K ta tv f D σ H := q
theorem s_fldW {a C dx : Addr} {fs : List (Str × V)} {f : Str} {y : V} {Q : Hp → Prop} (h : H a = some (.ins C dx fs)) (c : Cls K C) (n : NoAttr K C f) (l : fs.length < 1000) (q : rMu H a (.ins C dx (putF f y fs)) Q) : rFldS K (.ref a) y f H Q := ⟨a, C, dx, fs, rfl, h, c, n, l, q⟩
def rWt (W : Nat → St → Hp → Prop) (m : Nat) (tb : TS) (D : Ends) (σ : St) (H : Hp) : Prop := ∃ N : St → Hp → Prop, (∀ σ' H', N σ' H' → ∃ m', m' < m ∧ W m' σ' H') ∧ tb { D with nx := N, ct := N, bk := D.nx } σ H
theorem s_wt {W : Nat → St → Hp → Prop} {m : Nat} {tb : TS} (q : tb { D with nx := fun σ' H' => ∃ m', m' < m ∧ W m' σ' H', ct := fun σ' H' => ∃ m', m' < m ∧ W m' σ' H', bk := D.nx } σ H) : rWt W m tb D σ H := ⟨_, fun _ _ z => z, q⟩
theorem s_while {c : TT} {tb : TS} (W : Nat → St → Hp → Prop) (m : Nat) (h0 : W m σ H) (q : ∀ m σ H, W m σ H → c σ H fun b H1 => if b = true then rWt W m tb D σ H1 else D.nx σ H1) : tWhile c tb D σ H := ⟨W, ⟨m, h0⟩, q⟩
end
/-! ### loops and comprehensions -/
def bodyI (J : It) (g : TG) (tb : TS) (D : Ends) (σ : St) (H : Hp) : Prop := ∃ W : Nat → Nat → St → Hp → Prop, (∃ m, W 0 m σ H) ∧ ∀ i m σ H, W i m σ H →
  (J.stop i H ∧ D.nx σ H) ∨ (J.go i H ∧ ∃ N : St → Hp → Prop, (∀ σ' H', N σ' H' → ∃ m', m' < m ∧ W (i + 1) m' σ' H') ∧ ∀ x H', J.yld i H x H' → g x σ H' fun σ2 H2 => tb { D with nx := N, ct := N, bk := D.nx } σ2 H2)
def rForR (g : TG) (tb : TS) (D : Ends) (σ : St) (vs : List V) (H : Hp) : Prop := ∃ j : Int, vs = [.int j] ∧ -(2 ^ 62) ≤ j ∧ j < 2 ^ 62 ∧ bodyI (Itr 0 j.toNat) g tb D σ H
def rForL (K : PySem.W.Frag) (g : TG) (tb : TS) (D : Ends) (σ : St) (x : V) (H : Hp) : Prop := ∃ a, x = .ref a ∧ (∃ xs, SqL K H a xs) ∧ bodyI (Itl K a) g tb D σ H
section
variable {σ : St} {H : Hp} {Q : VK} {D : Ends} {K : PySem.W.Frag}
theorem s_forR {g : TG} {tb : TS} {ta : TA} (q : ta σ H fun vs H1 => rForR g tb D σ vs H1) : tFor (iRng1 ta) g tb D σ H := q
theorem s_forRI {g : TG} {tb : TS} {j : Int} (Pv : Nat → St → Hp → Prop) (b0 : 0 ≤ j) (b1 : j < 2 ^ 62) (h0 : Pv 0 σ H)
    (hs : ∀ (i : Nat) σ H, (i : Int) < j → Pv i σ H → g (.int i) σ H fun σ2 H2 => tb { D with nx := Pv (i + 1), ct := Pv (i + 1), bk := D.nx } σ2 H2) (hd : ∀ σ H, Pv j.toNat σ H → D.nx σ H) : rForR g tb D σ [.int j] H := by
  refine ⟨j, rfl, by omega, b1, for_range (lo := 0) (n := j.toNat) Pv h0 (fun i σ H hi p => ?_) hd⟩
  have := hs i σ H (by omega) p
  rw [show (0 : Int) + (i : Int) = i by omega]
  exact this
theorem s_forL {g : TG} {tb : TS} {tl : TE} (q : tl σ H fun x H1 => rForL K g tb D σ x H1) : tFor (iList K tl) g tb D σ H := q
theorem s_forLI {g : TG} {tb : TS} {a : Addr} {xs : List V} (Pv : Nat → St → Hp → Prop) (hx : SqL K H a xs) (h0 : Pv 0 σ H) (hl : ∀ i σ H, i ≤ xs.length → Pv i σ H → SqL K H a xs)
    (hs : ∀ i x σ H, xs[i]? = some x → Pv i σ H → g x σ H fun σ2 H2 => tb { D with nx := Pv (i + 1), ct := Pv (i + 1), bk := D.nx } σ2 H2) (hd : ∀ σ H, Pv xs.length σ H → D.nx σ H) : rForL K g tb D σ (.ref a) H :=
  ⟨a, rfl, ⟨xs, hx⟩, for_list Pv h0 hl hs hd⟩
end
def lcI (J : It) (g : TG) (tt : TT) (te : TE) (vs : List Nat) (σ : St) (H1 : Hp) (f : Addr → Hp → Prop) : Prop := ∀ D, H1 D = none → ∃ W : Nat → Nat → Hp → Prop, (∃ m, W 0 m (upd H1 D (.lst []))) ∧ ∀ i m H, W i m H →
  (J.stop i H ∧ f D H) ∨ (J.go i H ∧ ∃ Nx : Hp → Prop, (∀ H', Nx H' → ∃ m', m' < m ∧ W (i + 1) m' H') ∧ ∀ x H', J.yld i H x H' → g x (wipe σ vs) H' fun σ2 H2 => wipe σ2 vs = wipe σ vs ∧ tt σ2 H2 fun b H3 =>
    if b = true then te σ2 H3 fun y H4 => ∃ acc, H4 D = some (.lst acc) ∧ acc.length < sizeLine ∧ Nx (upd H4 D (.lst (acc ++ [y]))) else Nx H3)
def rLcR (g : TG) (tt : TT) (te : TE) (vs : List Nat) (σ : St) (xs : List V) (H1 : Hp) (f : Addr → Hp → Prop) : Prop := ∃ j : Int, xs = [.int j] ∧ -(2 ^ 62) ≤ j ∧ j < 2 ^ 62 ∧ lcI (Itr 0 j.toNat) g tt te vs σ H1 f
def rLcL (K : PySem.W.Frag) (g : TG) (tt : TT) (te : TE) (vs : List Nat) (σ : St) (x : V) (H1 : Hp) (f : Addr → Hp → Prop) : Prop := ∃ a, x = .ref a ∧ (∃ xs, SqL K H1 a xs) ∧ lcI (Itl K a) g tt te vs σ H1 f
def rLcT (K : PySem.W.Frag) (g : TG) (tt : TT) (te : TE) (vs : List Nat) (σ : St) (x : V) (H1 : Hp) (f : Addr → Hp → Prop) : Prop := ∃ a, x = .ref a ∧ (∃ xs, SqT K H1 a xs) ∧ lcI (Itt K a) g tt te vs σ H1 f
theorem wipe_set {σ : St} {i : Nat} {x : Option V} : wipe ((wipe σ [i]).set i x) [i] = wipe σ [i] := by
  show (((σ.set i none)).set i x).set i none = σ.set i none
  rw [List.set_set, List.set_set]
section
variable {σ : St} {H : Hp} {Q : VK} {D : Ends} {K : PySem.W.Frag}
theorem s_lcR {g : TG} {tt : TT} {te : TE} {vs : List Nat} {ta : TA} (q : ta σ H fun xs H1 => rLcR g tt te vs σ xs H1 fun D H2 => Q (.ref D) H2) : tLc (iRng1 ta) g tt te vs σ H Q := q
theorem s_lcL {g : TG} {tt : TT} {te : TE} {vs : List Nat} {tl : TE} (q : tl σ H fun x H1 => rLcL K g tt te vs σ x H1 fun D H2 => Q (.ref D) H2) : tLc (iList K tl) g tt te vs σ H Q := q
theorem s_lcT {g : TG} {tt : TT} {te : TE} {vs : List Nat} {tl : TE} (q : tl σ H fun x H1 => rLcT K g tt te vs σ x H1 fun D H2 => Q (.ref D) H2) : tLc (iTup K tl) g tt te vs σ H Q := q
end
/-- the list at D holds k items and Pv says which -/
def AccI (Pv : Nat → List V → Hp → Prop) (D : Addr) (k : Nat) (H : Hp) : Prop := ∃ acc, acc.length = k ∧ H D = some (.lst acc) ∧ Pv k acc H
def rAcc (D : Addr) (y : V) (H : Hp) (N : Hp → Prop) : Prop := ∃ acc, H D = some (.lst acc) ∧ acc.length < sizeLine ∧ N (upd H D (.lst (acc ++ [y])))
theorem s_acc {Pv : Nat → List V → Hp → Prop} {D : Addr} {k : Nat} {acc : List V} {y : V} {H : Hp} (e : H D = some (.lst acc)) (hl : acc.length = k) (hk : k < 1000000) (q : ∀ H', Sb D H H' → H' D = some (.lst (acc ++ [y])) → Pv (k + 1) (acc ++ [y]) H') : rAcc D y H (AccI Pv D (k + 1)) :=
  ⟨acc, e, by rw [sizeLine_eq]; omega, acc ++ [y], by simp [hl], upd_same, q _ ((Sb.refl D H).pen) upd_same⟩
section
variable {σ : St} {H : Hp} {K : PySem.W.Frag}
theorem yes_of {te : TE} {D : Addr} {N : Hp → Prop} (z : te σ H fun y H4 => rAcc D y H4 N) : tYes σ H fun b H3 => if b = true then te σ H3 fun y H4 => ∃ acc, H4 D = some (.lst acc) ∧ acc.length < sizeLine ∧ N (upd H4 D (.lst (acc ++ [y]))) else N H3 := by
  have w : ∀ (A B : Prop), A → (if (true : Bool) = true then A else B) := fun A B h => by rw [if_pos rfl]; exact h
  exact w _ (N H) z
theorem s_lcRI {i : Nat} {te : TE} {j : Int} {f : Addr → Hp → Prop} (Pv : Addr → Nat → List V → Hp → Prop) (b0 : 0 ≤ j) (b1 : j < 1000000) (h0 : ∀ D H', H D = none → Same H H' → H' D = some (.lst []) → Pv D 0 [] H')
    (hs : ∀ D (k : Nat) acc H', H D = none → (k : Int) < j → acc.length = k → H' D = some (.lst acc) → Pv D k acc H' → te ((wipe σ [i]).set i (some (.int k))) H' fun y H4 => rAcc D y H4 (AccI (Pv D) D (k + 1)))
    (hd : ∀ D acc H', H D = none → acc.length = j.toNat → H' D = some (.lst acc) → Pv D j.toNat acc H' → f D H') : rLcR (gName i) tYes te [i] σ [.int j] H f := by
  refine ⟨j, rfl, by omega, by omega, fun D hD => lc_range (lo := 0) (n := j.toNat) (AccI (Pv D) D) ⟨[], rfl, upd_same, h0 D _ hD (Same.new (Same.refl H) hD) upd_same⟩ ?_ ?_⟩
  · rintro k H' hk ⟨acc, hl, hA, p⟩
    have z := hs D k acc H' hD (by omega) hl hA p
    rw [show (0 : Int) + (k : Int) = k by omega]
    exact ⟨wipe_set, yes_of z⟩
  · rintro H' ⟨acc, hl, hA, p⟩
    exact hd D acc H' hD hl hA p

theorem s_lcLI {i : Nat} {te : TE} {a : Addr} {xs : List V} {f : Addr → Hp → Prop} (Pv : Addr → Nat → List V → Hp → Prop) (hx : SqL K H a xs) (h0 : ∀ D H', H D = none → Same H H' → H' D = some (.lst []) → Pv D 0 [] H') (hl : ∀ D k acc H', H D = none → Pv D k acc H' → SqL K H' a xs)
    (hs : ∀ D (k : Nat) acc x H', H D = none → xs[k]? = some x → acc.length = k → H' D = some (.lst acc) → Pv D k acc H' → te ((wipe σ [i]).set i (some x)) H' fun y H4 => rAcc D y H4 (AccI (Pv D) D (k + 1)))
    (hd : ∀ D acc H', H D = none → acc.length = xs.length → H' D = some (.lst acc) → Pv D xs.length acc H' → f D H') : rLcL K (gName i) tYes te [i] σ (.ref a) H f := by
  refine ⟨a, rfl, ⟨xs, hx⟩, fun D hD => lc_list (xs := xs) (AccI (Pv D) D) ⟨[], rfl, upd_same, h0 D _ hD (Same.new (Same.refl H) hD) upd_same⟩ (fun k H' _ p => ?_) ?_ ?_⟩
  · obtain ⟨acc, _, _, p⟩ := p
    exact hl D k acc H' hD p
  · rintro k x H' hk ⟨acc, hl, hA, p⟩
    have z := hs D k acc x H' hD hk hl hA p
    exact ⟨wipe_set, yes_of z⟩
  · rintro H' ⟨acc, hl, hA, p⟩
    exact hd D acc H' hD hl hA p
/-- over a tuple -/
theorem s_lcTI {i : Nat} {te : TE} {a : Addr} {xs : List V} {f : Addr → Hp → Prop} (Pv : Addr → Nat → List V → Hp → Prop) (hx : SqT K H a xs) (h0 : ∀ D H', H D = none → Same H H' → H' D = some (.lst []) → Pv D 0 [] H') (hl : ∀ D k acc H', H D = none → Pv D k acc H' → SqT K H' a xs)
    (hs : ∀ D (k : Nat) acc x H', H D = none → xs[k]? = some x → acc.length = k → H' D = some (.lst acc) → Pv D k acc H' → te ((wipe σ [i]).set i (some x)) H' fun y H4 => rAcc D y H4 (AccI (Pv D) D (k + 1)))
    (hd : ∀ D acc H', H D = none → acc.length = xs.length → H' D = some (.lst acc) → Pv D xs.length acc H' → f D H') : rLcT K (gName i) tYes te [i] σ (.ref a) H f := by
  refine ⟨a, rfl, ⟨xs, hx⟩, fun D hD => lc_tup (xs := xs) (AccI (Pv D) D) ⟨[], rfl, upd_same, h0 D _ hD (Same.new (Same.refl H) hD) upd_same⟩ (fun k H' _ p => ?_) ?_ ?_⟩
  · obtain ⟨acc, _, _, p⟩ := p
    exact hl D k acc H' hD p
  · rintro k x H' hk ⟨acc, hl, hA, p⟩
    have z := hs D k acc x H' hD hk hl hA p
    exact ⟨wipe_set, yes_of z⟩
  · rintro H' ⟨acc, hl, hA, p⟩
    exact hd D acc H' hD hl hA p
/-- join, by words of its own -/
def rJoin (K : PySem.W.Frag) : V → List V → Hp → VK → Prop := fun x xs H Q => ∃ a p, ∃ ys : List Str, x = .str a ∧ xs = [.ref p] ∧ (SqL K H p (ys.map V.str) ∨ SqT K H p (ys.map V.str)) ∧ (ys.map (·.length)).sum + ys.length * a.length ≤ 16777216 ∧ Q (.str (Txt.join a ys)) H
theorem pe_joinS {X : Cx} {o e : Expr} {to te : TE} {apos pos : Pos} (ho : PE X o to) (he : PE X e te) (hs : starEach [e] X.env = [(false, eval e X.env)] := by rfl) (hbase : attributeBase o "join" X.env (eval o X.env) = eval o X.env := by rfl) (hline : (apos.endLine == pos.line) = true := by rfl) :
    PE X (.Call (.Attribute o "join" apos) [e] [] pos) (tM1 (rJoin X.K) to te) := pe_join ho he hs hbase hline
theorem s_m1 {r : V → List V → Hp → VK → Prop} {to te : TE} {Q : VK} (q : to σ H fun x H1 => rStr x (te σ H1 fun y H2 => r x [y] H2 Q)) : tM1 r to te σ H Q := q
theorem s_str {z : Str} {R : Prop} (q : R) : rStr (.str z) R := ⟨⟨z, rfl⟩, q⟩
theorem s_join {a : Str} {p : Addr} {ys : List Str} {Q : VK} (h : H p = some (.lst (ys.map V.str))) (l : (ys.map (·.length)).sum + ys.length * a.length ≤ 16777216) (q : Q (.str (Txt.join a ys)) H) : rJoin K (.str a) [.ref p] H Q := ⟨a, p, ys, rfl, rfl, .inl (SqL.of h), l, q⟩
/-- stores into a list -/
theorem s_gSub {to ti : TE} {t : TSet} {v : V} {Q : St → Hp → Prop} (q : to σ H fun o H1 => ti σ H1 fun i H2 => t o i v H2 fun H3 => Q σ H3) : gSub to ti t v σ H Q := q
theorem s_setL {p : Addr} {xs : List V} {k : Int} {j : Nat} {v : V} {Q : Hp → Prop} (h : H p = some (.lst xs)) (e : ixN xs.length k = some j) (q : rMu H p (.lst (xs.set j v)) Q) : rSetL (.ref p) (.int k) v H Q := ⟨p, xs, k, j, rfl, rfl, h, e, q⟩
theorem ixN_of {n : Nat} {k : Int} (h0 : 0 ≤ k) (h1 : k < n) : ixN n k = some k.toNat := by unfold ixN; rw [if_pos h0, if_pos h1]
theorem s_rep {l : Addr} {k : Int} {xs : List V} {Q : VK} (h : H l = some (.lst xs)) (h1 : 0 ≤ k) (h2 : k < 1000) (h3 : xs.length ≤ 1000) (q : rNO H (.lst (List.replicate k.toNat xs).flatten) fun p H' => Q (.ref p) H') : rRep (.ref l) (.int k) H Q := by
  refine ⟨l, k, xs, rfl, rfl, h, by omega, by omega, ?_, q⟩
  have : k.toNat ≤ 1000 := by omega
  have := Nat.mul_le_mul h3 this
  rw [sizeLine_eq]
  omega
end
theorem seqIx {i : Int} {n : Nat} (h0 : 0 ≤ i) (h1 : i < n) : seqIndex? i n = some i.toNat := seqIndex_of h0 h1
end LH
end
section
set_option maxRecDepth 100000
set_option maxHeartbeats 4000000
namespace LH
open PySem L2 PyProof.Rows
/-! ### promises of defs that show data: around them no built-in guards itself -/
structure FnG (P : Program) (w : World) (K : PySem.W.Frag) (mg : Str → Option Value) (base : Heap) (k : Nat) (f : Addr) (fd : FuncData) (ps : List Str) (sp : Sp) : Prop where
  n : ∀ vs H Q E, sp vs H Q E → vs.length = ps.length
  go : ∀ (A : Around) (out : List Env) (s : Shared) (H : Hp) (args : Args) (us : List Value) (vs : List V) (Q : VK) (E : XK), Room k A → A.guards = some [] → Env0 P w K mg base A out s H →
    BindsTo s fd args (ps.zip us) → Vals vs us → sp vs H Q E → codeAny (model P w) A (.call (.ref f) args) (CR CX0 out P w H s Q E) s
section
variable {P : Program} {w : World} {K : PySem.W.Frag} {mg : Str → Option Value} {base : Heap}
theorem FnG.of {k : Nat} {f : Addr} {fd : FuncData} {ps : List Str} {sp : Sp} (F : FnOk P w K mg base CX0 k f fd ps sp) : FnG P w K mg base k f fd ps sp :=
  ⟨F.len, fun A out s H args us vs Q E r _ e b v q => F.run A out s H args us vs Q E r e b v q⟩
theorem okG {x qual : Str} {st : Stmt} {f : Addr} {fd : FuncData} {N ps : List Str} {k : Nat} {sp : Sp} (F : Fun K x qual st f fd) (S : FnScope N ps (defScope st)) (len : ∀ vs H Q E, sp vs H Q E → vs.length = ps.length)
    (body : ∀ (cdv : Value) (A : Around) (out : List Env) (s : Shared) (H : Hp) (vs : List V) (Q : VK) (E : XK), Room k (A.deeper (envOfC qual (defScope st) s.heap.objs.size f cdv)) → (A.deeper (envOfC qual (defScope st) s.heap.objs.size f cdv)).guards = some [] → sp vs H Q E →
      ∃ t, PSs (cxOf CX0 P w K mg base N qual (defScope st) f cdv A out s H E).nox (defBody st) t ∧ t { nx := fun _ H' => Q .non H', rt := Q } (start N vs) H) : FnG P w K mg base (k + 1) f fd ps sp := by
  obtain ⟨c0, d0, kv, dc, pm, an, cdv, ct, sl, rfl, here, code⟩ := F.ex
  refine ⟨len, fun A out s H args us vs Q E room hgu en bd rv hsp => ?_⟩
  have kin : K.In s.heap := en.mod.kin.keeps fun b o z => (en.bs b o z).1
  have nolim : s.heap.NoLimit := en.mod.nolimit.keeps fun b o z => (en.bs b o z).1
  have locals_ok : ∀ y ∈ ps.zip us, (defScope st).names.lookup y.1 = some .local ∨ ((defScope st).names.lookup y.1 = some .cell ∧ ((cellsFrom (s.heap.objs.size + 1) (defScope st).names []).lookup y.1).isSome = true) := by
    rintro ⟨nm, v⟩ hy
    cases S.par nm (List.of_mem_zip hy).1 with
    | inl z => exact Or.inl z
    | inr z => exact Or.inr ⟨z, PySem.W.cellsFrom_some _ _ _ (Or.inl z)⟩
  refine codeAny_call_function room.depth (kin _ _ here) rfl S.co S.gen rfl (PySem.W.codeRec_of kin code) (bd _ _ _ _ (wpAny_newFunctionEnv_cells S.kind locals_ok fun env henv s1 ic => ?_))
  subst henv
  refine ⟨nolim.keeps ic.toInCall.keep, codeAny_func ?_⟩
  obtain ⟨t, ht, tq⟩ := body cdv A out s H vs Q E (room.deeper _) hgu hsp
  have J0 := inv_start (CX := CX0) (E := E) S room.hd en (len _ _ _ _ hsp) rv ic
  have closing : ∀ {σ' : L2.St} {H' : Hp} {s' : Shared} {v : V} {u : Value}, Inv (cxOf CX0 P w K mg base N qual (defScope st) f cdv A out s H E) [] σ' H' s' → RelV v u → Q v H' → CE out P w H s Q u s' := by
    intro σ' H' s' v u J r q
    exact ⟨v, H', J.os, J.bare, J.base, J.hok, r, q⟩
  refine wpAny_mono (ht.nox.run [] s1 (start N vs) H _ J0 tq) (fun flow s' got => ?_) (fun _ _ z => z)
  cases flow with
  | brk => obtain ⟨_, _, _, z⟩ := got; exact z.elim
  | cont => obtain ⟨_, _, _, z⟩ := got; exact z.elim
  | next => obtain ⟨σ', H', J, z⟩ := got; exact closing (v := .non) (u := .none) J rfl z
  | ret u => obtain ⟨v, σ', H', J, r, z⟩ := got; exact closing J r z
end
section
variable {X : Cx} {k : Nat} {f : Addr} {fd : FuncData} {ps : List Str} {sp : Sp} {x : Str} {p pos : Pos} {e : Expr} {es : List Expr} {t : TA}
/-- a call of such a def -/
theorem pe_callG (F : FnG X.prog X.w X.K X.mg X.base k f fd ps sp) (room : Room k X.A) (hgu : X.A.guards = some []) (gl : Gl X x) (hm : X.mg x = some (.ref f)) (kp : PySem.W.keepIn X.K (.ref f) = true) (hb : Binds X.K fd ps [])
    (ha : PA X (e :: es) t) (hdb : (x == ("__debug__" : Str)) = false := by decide) (he : starEach (e :: es) X.env = (false, eval e X.env) :: starEach es X.env := by rfl) (hpl : (backTo pos (starEach es X.env)).any (·.1) = false := by rfl) :
    PE X (.Call (.Name x p) (e :: es) [] pos) (tCall sp [] E0 t) := by
  constructor
  intro pins s σ H Q I h
  refine wpAny_Call_Name_kw (ld_glob I gl hm ?_ hdb)
  refine PySem.W.callWith_K (h₀ := X.base) I.ok.mod.kin kp (thn (ha.run pos pins s σ H _ I h) fun us s1 z => ?_) he hpl
  obtain ⟨vs, H1, I1, r, q⟩ := z
  refine ⟨I1.kIn, ?_⟩
  rw [List.append_nil] at q
  have hl : us.length = ps.length := by rw [← r.length]; exact F.n _ _ _ _ q
  have bd := hb s1 us I1.kIn (by rw [List.append_nil]; exact hl)
  rw [List.append_nil] at bd
  refine wpAny_call (codeAny_mono (F.go X.A X.stack s1 H1 ⟨us, []⟩ us vs Q E0 room hgu I1.env0 bd r q) fun res s2 got => ?_)
  cases res with
  | error _ => exact got.elim
  | ok fl => cases fl with
    | ret u => exact I1.after got
    | next => exact got.elim
    | brk => exact got.elim
    | cont => exact got.elim
end
/-- the law's own call: nothing is tracked but the script -/
theorem law_runG {P : Program} {w : World} {K : PySem.W.Frag} {mg mb : Str → Option Value} {k : Nat} {fa a : Addr} {fd : FuncData} {x : Str} {sp : Sp} {s : Shared} {vs : List Value} {ns : List Int}
    (kin : K.In s.heap) (gns : s.heap.Ns mainGlobals mg) (bns : s.heap.Ns builtinsNs mb) (bbs : ∀ x : Str, x ≠ "__name__" → mb x = bootBuiltins x) (nolim : s.heap.NoLimit) (nogen : s.gens = #[])
    (at_a : s.heap.get? a = some { cls := .type "list", data := .seq vs.toArray }) (nums : IntsAre vs ns) (small : ns.length ≤ sizeLine) (room : Room k callerA)
    (F : ∀ base : Heap, K.In base → base.Ns mainGlobals mg → FnG P w K mg base k fa fd [x] sp) (bd : ∀ (s : Shared) (u : Value), BindsTo s fd ⟨[u], []⟩ [(x, u)])
    (good : ∀ H : Hp, SqL K H a (ns.map V.int) → sp [.ref a] H (fun v _ => v = .bl true) fun _ _ _ => False) :
    codeAny (model P w) callerA (.call (.ref fa) ⟨[.ref a], []⟩) (fun r s' => r = .ok (.ret (.bool true)) ∧ OldK s.heap s'.heap ∧ s'.os = s.os ∧ AllBare s'.gens) s := by
  have rv := vals_ints nums
  have count := nums.length
  -- the heap that is tracked: the script, if the written part doesn't have it
  obtain ⟨H, track, seq⟩ : ∃ H : Hp, (∀ b u, H b = some u → b = a ∧ u = .frz { cls := .type "list", data := .seq vs.toArray } (.lst (ns.map V.int)) ∧ K.lookup a = none) ∧ SqL K H a (ns.map V.int) := by
    cases written : K.lookup a with
    | some o =>
      have z := kin a o written
      rw [at_a] at z
      cases z
      refine ⟨fun _ => none, ?_, Or.inr ⟨_, vs.toArray, _, written, rfl, rfl, rfl, ?_, ?_⟩⟩
      · intro b u z; exact nomatch z
      · rw [List.size_toArray, count]; exact small
      · simpa using rv
    | none =>
      refine ⟨fun b => if b = a then some (.frz { cls := .type "list", data := .seq vs.toArray } (.lst (ns.map V.int))) else none, ?_, Or.inl (Or.inr ⟨_, if_pos rfl⟩)⟩
      intro b u z
      dsimp only at z
      split at z
      · next e => exact ⟨e, (Option.some.inj z).symm, rfl⟩
      · cases z
  have held : HOk P w H s.heap := by
    intro b u z
    obtain ⟨rfl, rfl, _⟩ := track b u z
    exact ⟨at_a, by rw [List.length_map]; exact small, vs, _, rv, at_a⟩
  have hidden : ∀ {b : Addr} {m : Str → Option Value}, s.heap.Ns b m → (hidT s.heap H).Ns b m := by
    rintro b m ⟨o, es, ep, e, d, r⟩
    refine ⟨o, es, ep, hidT_get e ?_, d, r⟩
    cases q : H b with
    | none => rfl
    | some u =>
      obtain ⟨rfl, _, _⟩ := track b u q
      rw [at_a] at e
      cases e
      exact nomatch d
  have kin2 : K.In (hidT s.heap H) := by
    intro b o e
    refine hidT_get (kin b o e) ?_
    cases q : H b with
    | none => rfl
    | some u =>
      obtain ⟨rfl, _, z⟩ := track b u q
      rw [z] at e
      cases e
  have md : Mod K mg (hidT s.heap H) := by
    obtain ⟨mc, n1, n2⟩ := nolim
    exact ⟨kin2, hidden gns, ⟨mb, hidden bns, bbs⟩, mc, hidden n1, n2⟩
  have en : Env0 P w K mg (hidT s.heap H) callerA [] s H := by
    refine ⟨rfl, md, fun b o e => of_hidT e, Nat.le_of_eq (hidT_size _ _), trivial, ?_, held, .of_eq nogen⟩
    intro b z
    exact absurd (show b ∈ ([] : List Addr) from z) (by simp)
  refine codeAny_mono ((F _ kin2 (hidden gns)).go callerA [] s H ⟨[.ref a], []⟩ [.ref a] [.ref a] _ _ room rfl en (bd s (.ref a)) (.cons rfl .nil) (good H seq)) fun r s' got => ?_
  cases r with
  | error e => exact got.elim
  | ok fl => cases fl with
    | next => exact got.elim
    | brk => exact got.elim
    | cont => exact got.elim
    | ret u =>
      obtain ⟨v, H', os, bare, un, held', r', q⟩ := got
      obtain rfl : v = .bl true := q
      obtain rfl : u = Value.bool true := r'
      refine ⟨rfl, OldK.of_keep fun b o e => ?_, os, bare⟩
      cases q : H b with
      | none =>
        refine un.keep b o e q (fun z => ?_) (by simp)
        exact absurd (show b ∈ ([] : List Addr) from z) (by simp)
      | some u =>
        obtain ⟨rfl, rfl, _⟩ := track b u q
        obtain ⟨e2, _⟩ := held' b _ (un.frzs b _ _ q)
        rw [at_a] at e
        cases e
        exact e2
theorem walkG {l : PySem.W.OpenLaw} {n k : Nat} {q : Program} {loose : List Str} {XP : (Str → Option Value) → Heap → Prop} {YP : World → Heap → Prop} {d : DefRec} {K : Params → PySem.W.Frag} {sp : PySem.W.Frag → Sp} {x : Str}
    (hn : l.most = some n) (hn2 : n ≤ sizeLine) (hdf : d.params.defaults = []) (room : Room k callerA) (hY : ∀ (w : World) (h : Heap), YP w h → (K w.params).In h)
    (F : ∀ (w : World) (mg : Str → Option Value) (fa : Addr) (h : Heap), (K w.params).In h → h.Ns mainGlobals mg → mg d.name = some (.ref fa) →
      ∃ fd : FuncData, (∀ (s : Shared) (u : Value), BindsTo s fd ⟨[u], []⟩ [(x, u)]) ∧ ∀ base : Heap, (K w.params).In base → base.Ns mainGlobals mg → FnG l.prog w (K w.params) mg base k fa fd [x] (sp (K w.params)))
    (good : ∀ (K : PySem.W.Frag) (H : Hp) (a : Addr) (ns : List Int), ns.length ≤ n → SqL K H a (ns.map V.int) → sp K [.ref a] H (fun v _ => v = .bl true) fun _ _ _ => False) :
    PySem.W.WalkO q loose XP YP l.row.toRowW d [] (fun f vs => PySem.call f vs) := by
  refine Att.attach_call hn hdf fun w s0 s1 mg mb fa o pm cd doc a vs ns G Y _ _ _ hmg obj nums len nogen => ?_
  have kin := hY w _ Y
  obtain ⟨fd, bd, FF⟩ := F w mg fa _ kin G.T.g hmg
  exact law_runG kin G.T.g G.T.b G.T.builtins G.T.nolimit nogen obj nums (Nat.le_trans len hn2) room FF bd fun H S => good (K w.params) H a ns len S
end LH
end
section
set_option maxRecDepth 100000
set_option maxHeartbeats 4000000
namespace LH
open PySem L2 PyProof.Rows
/-! ### data that is shown and sorted -/
structure Sd (d : PyData) : Prop where
  lay : d.layable0 = true
  short : d.intsShort 13 = true
  show' : d.showable = true
theorem hasDict_no {d : PyData} (h : Sd d) : d.hasDict = false := by
  have h1 := h.lay
  have h2 : (PyData.canLay0 d && decide (PyData.depth d ≤ 64) && decide (PyData.weight d ≤ 2 ^ 20)) = true := h1
  simp only [Bool.and_eq_true] at h2
  exact PyData.hasDict_of_canLay d h2.1.1
def rRepr (K : PySem.W.Frag) : List V → Hp → VK → Prop := fun xs H Q => ∃ x d, xs = [x] ∧ Dp K H x d ∧ Sd d ∧ d.depth ≤ 20 ∧ Q (.str d.shown) H
def rSortD (K : PySem.W.Frag) : List V → Hp → VK → Prop := fun vs H Q => ∃ (a : Addr) (β : Type) (val : β → V) (enc : β → PyData) (bs : List β), vs = [.ref a] ∧ SqL K H a (bs.map val) ∧ (∀ b ∈ bs, Dp K H (val b) (enc b)) ∧ PySem.W.AllAlike (bs.map enc) ∧ PySem.W.Sortable (bs.map enc) ∧ (∀ b ∈ bs, (enc b).depth ≤ 20) ∧
  rNO H (.lst ((bs.mergeSort (PySem.W.dataLe false enc)).map val)) fun l H' => Q (.ref l) H'
section
variable {X : Cx}
theorem one_val {x : V} {us : List Value} (r : Vals [x] us) : ∃ u, us = [u] ∧ RelV x u := by
  cases r with
  | cons r t => cases t; exact ⟨_, rfl, r⟩
theorem call_reprD (hu : X.A.units + 64 < cLine) (hg : X.A.guards = some []) : CallR X (.builtin "repr") (rRepr X.K) := by
  intro pins s σ H xs us Q I r h
  obtain ⟨x, d, rfl, hd, sd, dp, q⟩ := h
  obtain ⟨u, rfl, ru⟩ := one_val r
  have nd := hasDict_no sd
  have sz : d.shown.length ≤ sizeLine := Nat.le_trans (shown_le13 sd.lay sd.short) (by rw [sizeLine_eq]; decide)
  obtain ⟨as, rd⟩ := Dp.reads I d x u hd ru
  cases hd with
  | non => cases ru; exact PySem.P.repr_of_none ⟨.str _, H, I.tok _, ⟨_, rfl⟩, q⟩
  | bl b => cases ru; exact PySem.P.repr_of_bool ⟨.str _, H, I.tok _, ⟨_, rfl⟩, q⟩
  | int i =>
    obtain ⟨t, rfl⟩ := ru
    have z := sd.show'
    simp only [PyData.showable, decide_eq_true_eq] at z
    exact PySem.P.repr_of_int z ⟨.str _, H, I.tok _, ⟨_, rfl⟩, q⟩
  | str z =>
    obtain ⟨t, rfl⟩ := ru
    exact PySem.P.repr_of_str ⟨.str _, H, I.tok _, ⟨_, rfl⟩, q⟩ sz
  | lst h1 h2 =>
    cases ru
    exact repr_of_reads' rd sd.show' (PyData.noDict_hsm nd) hg (by omega) (fun _ _ e => e) (fun h' u tk hk => ⟨.str _, H, I.kept (t' := tk) hk, ⟨_, rfl⟩, q⟩) sz
  | tup h1 h2 =>
    cases ru
    exact repr_of_reads' rd sd.show' (PyData.noDict_hsm nd) hg (by omega) (fun _ _ e => e) (fun h' u tk hk => ⟨.str _, H, I.kept (t' := tk) hk, ⟨_, rfl⟩, q⟩) sz
theorem each_of {β : Type} {val : β → V} {bs : List β} : ∀ {its : List Value}, Vals (bs.map val) its → PySem.W.EachIs (fun (v : Value) (b : β) => RelV (val b) v) its bs := by
  induction bs with
  | nil => intro its r; cases r; exact .nil
  | cons b r ih =>
    intro its z
    rw [List.map_cons] at z
    cases z with
    | cons z1 z2 => exact .cons z1 (ih z2)
theorem of_each {β : Type} {val : β → V} : ∀ {bs : List β} {out : List Value}, PySem.W.EachIs (fun (v : Value) (b : β) => RelV (val b) v) out bs → Vals (bs.map val) out
  | _, _, .nil => .nil
  | _, _, .cons r t => .cons r (of_each t)
theorem reads_of {pins : List (Addr × Obj)} {σ : L2.St} {H : Hp} {s : Shared} (I : Inv X pins σ H s) {β : Type} {val : β → V} {enc : β → PyData} : ∀ {bs : List β} {its : List Value}, Vals (bs.map val) its → (∀ b ∈ bs, Dp X.K H (val b) (enc b)) →
    PySem.W.EachIs (fun (v : Value) (b : β) => ∃ as, Reads s.heap v (enc b) as) its bs := by
  intro bs
  induction bs with
  | nil => intro its r _; cases r; exact .nil
  | cons b r ih =>
    intro its z hd
    rw [List.map_cons] at z
    cases z with
    | cons z1 z2 => exact .cons (Dp.reads I _ _ _ (hd b List.mem_cons_self) z1) (ih z2 fun c hc => hd c (List.mem_cons_of_mem _ hc))
theorem cr_sortedD (hu : X.A.units + 64 < cLine) : CallR X (.builtin "sorted") (rSortD X.K) := by
  intro pins s σ H vs us Q I r h
  obtain ⟨a, β, val, enc, bs, rfl, hs, hdp, hal, hso, hdep, q⟩ := h
  obtain ⟨its, rv, hl, hz⟩ := I.list hs
  obtain ⟨u, rfl, ru⟩ := one_val r
  cases ru
  rw [List.length_map] at hz
  refine PySem.W.sorted_data (isL_of hl) (each_of rv) (reads_of I rv hdp) hal hso hz (fun b hb => by have := hdep b hb; omega) fun out ho eo => ?_
  obtain ⟨ep, he'⟩ := sortedAll_at s.heap its out.toArray
  have rel := of_each eo
  exact ⟨.ref _, upd H (s.heap.objs.size + 1) (.lst _), I.laid (t' := s.toks) (fun _ _ => sortedAll_old) (Nat.le_succ _) ⟨by rw [rel.length, ho]; exact hz, out, ep, rel, he'⟩, rfl, q _ (I.hok.fresh (Nat.le_succ _))⟩
end
/-! ### orders -/
theorem perm_eq {α : Type} {R : α → α → Prop} (anti : ∀ x y, R x y → R y x → x = y) : ∀ {a b : List α}, a.Perm b → a.Pairwise R → b.Pairwise R → a = b
  | [], b, p, _, _ => (List.nil_perm.mp p).symm
  | x :: r, [], p, _, _ => by have := p.length_eq; simp at this
  | x :: r, y :: t, p, h1, h2 => by
    have hx : x ∈ y :: t := p.mem_iff.mp List.mem_cons_self
    have hy : y ∈ x :: r := p.mem_iff.mpr List.mem_cons_self
    have e : x = y := by
      rcases List.mem_cons.mp hx with e | hx
      · exact e
      · rcases List.mem_cons.mp hy with e | hy
        · exact e.symm
        · exact anti x y ((List.pairwise_cons.mp h1).1 y hy) ((List.pairwise_cons.mp h2).1 x hx)
    subst e
    rw [perm_eq anti (List.Perm.cons_inv p) (List.pairwise_cons.mp h1).2 (List.pairwise_cons.mp h2).2]
def sLt (a b : Str) : Prop := a.cps.toList < b.cps.toList
def sLe (a b : Str) : Prop := ¬ b.cps.toList < a.cps.toList
theorem sLe_anti (a b : Str) (h1 : sLe a b) (h2 : sLe b a) : a = b := ext_toList (List.le_antisymm (by exact h1) (by exact h2))
theorem sLt_irrefl (a : Str) : ¬ sLt a a := List.lt_irrefl _
theorem sLt_trans {a b c : Str} (h1 : sLt a b) (h2 : sLt b c) : sLt a c := List.lt_trans h1 h2
theorem sLt_of {a b : Str} (h : sLe a b) (n : a ≠ b) : sLt a b := by
  unfold sLt
  false_or_by_contra
  rename_i z
  exact n (sLe_anti a b h z)
theorem sLe_trans {a b c : Str} (h1 : sLe a b) (h2 : sLe b c) : sLe a c := List.le_trans (l₁ := a.cps.toList) (l₂ := b.cps.toList) (l₃ := c.cps.toList) h1 h2
theorem rising_le : ∀ (l : List Str) (p : Str), risingS p l = true → (∀ x ∈ l, sLe p x) ∧ l.Pairwise sLe
  | [], p, _ => ⟨by simp, .nil⟩
  | x :: r, p, h => by
    simp only [risingS, Bool.and_eq_true, Bool.not_eq_true'] at h
    obtain ⟨h1, h2⟩ := h
    rw [ltCps_eq, decide_eq_false_iff_not] at h1
    obtain ⟨i1, i2⟩ := rising_le r x h2
    refine ⟨fun y hy => ?_, List.pairwise_cons.mpr ⟨i1, i2⟩⟩
    rcases List.mem_cons.mp hy with rfl | hy
    · exact h1
    · exact sLe_trans h1 (i1 y hy)
theorem sorted_le : ∀ {l : List Str}, sortedS l = true → l.Pairwise sLe
  | [], _ => .nil
  | x :: r, h => by
    obtain ⟨i1, i2⟩ := rising_le r x h
    exact List.pairwise_cons.mpr ⟨i1, i2⟩
/-! ### doors: name, room, move, goal, price -/
structure Door where
  name : Str
  room : Str
  move : Int
  goal : Str
  price : Int
abbrev doorV (d : Door) : List V := [.str d.name, .str d.room, .int d.move, .str d.goal, .int d.price]
def doorD (d : Door) : PyData := .tuple [.str d.name, .str d.room, .int d.move, .str d.goal, .int d.price]
def DoorAt (H : Hp) (v : V) (d : Door) : Prop := ∃ t, v = .ref t ∧ H t = some (.tup (doorV d))
theorem DoorAt.dp {K : PySem.W.Frag} {H : Hp} {v : V} {d : Door} (h : DoorAt H v d) : Dp K H v (doorD d) := by
  obtain ⟨t, rfl, e⟩ := h
  exact .tup (SqT.of e) (.cons (.str _) (.cons (.str _) (.cons (.int _) (.cons (.str _) (.cons (.int _) .nil)))))
theorem DoorAt.same {H H' : Hp} {v : V} {d : Door} (h : DoorAt H v d) (s : Same H H') : DoorAt H' v d := by
  obtain ⟨t, rfl, e⟩ := h
  exact ⟨t, rfl, s _ _ e⟩
theorem DoorAt.sb {H H' : Hp} {q : Addr} {v : V} {d : Door} (h : DoorAt H v d) (s : Sb q H H') (n : ∀ xs, H q ≠ some (.tup xs)) : DoorAt H' v d := by
  obtain ⟨t, rfl, e⟩ := h
  refine ⟨t, rfl, s _ _ (fun z => ?_) e⟩
  rw [z] at e
  exact n _ e
theorem Pen.noT {H : Hp} {p c : Addr} {n : Nat} (h : Pen H p c n) : ∀ xs, H p ≠ some (.tup xs) := by
  obtain ⟨ns, t, r, h1, _⟩ := h
  intro xs z
  rw [h1] at z
  cases z
theorem noT_of {H : Hp} {l : Addr} {xs : List V} (h : H l = some (.lst xs)) : ∀ ys, H l ≠ some (.tup ys) := by
  intro ys z
  rw [h] at z
  cases z
def DoorsAt (H : Hp) (vs : List V) (ds : List Door) : Prop := PySem.W.EachIs (DoorAt H) vs ds
theorem DoorsAt.imp {H H' : Hp} (f : ∀ v d, DoorAt H v d → DoorAt H' v d) : ∀ {vs : List V} {ds : List Door}, DoorsAt H vs ds → DoorsAt H' vs ds
  | _, _, .nil => .nil
  | _, _, .cons r t => .cons (f _ _ r) (DoorsAt.imp f t)
theorem DoorsAt.same {H H' : Hp} {vs : List V} {ds : List Door} (h : DoorsAt H vs ds) (s : Same H H') : DoorsAt H' vs ds := h.imp fun _ _ z => z.same s
theorem DoorsAt.sb {H H' : Hp} {q : Addr} {vs : List V} {ds : List Door} (h : DoorsAt H vs ds) (s : Sb q H H') (n : ∀ xs, H q ≠ some (.tup xs)) : DoorsAt H' vs ds := h.imp fun _ _ z => z.sb s n
theorem DoorsAt.all {K : PySem.W.Frag} {H : Hp} : ∀ {vs : List V} {ds : List Door}, DoorsAt H vs ds → DpAll K H vs (ds.map doorD)
  | _, _, .nil => .nil
  | _, _, .cons r t => .cons r.dp (DoorsAt.all t)
theorem DoorsAt.snoc {H : Hp} {v : V} {d : Door} (h : DoorAt H v d) : ∀ {vs : List V} {ds : List Door}, DoorsAt H vs ds → DoorsAt H (vs ++ [v]) (ds ++ [d])
  | _, _, .nil => .cons h .nil
  | _, _, .cons r t => .cons r (DoorsAt.snoc h t)
theorem DoorsAt.get {H : Hp} : ∀ {vs : List V} {ds : List Door} {i : Nat} {v : V}, DoorsAt H vs ds → vs[i]? = some v → ∃ d, ds[i]? = some d ∧ DoorAt H v d
  | _, _, 0, _, .cons r t, e => ⟨_, rfl, by simp at e; rw [← e]; exact r⟩
  | _, _, i + 1, _, .cons r t, e => by
    obtain ⟨d, h1, h2⟩ := DoorsAt.get (i := i) t (by simpa using e)
    exact ⟨d, by simpa using h1, h2⟩
/-- rising by their names, no two alike -/
def Rising (ds : List Door) : Prop := ds.Pairwise fun a b => sLt a.name b.name
theorem door_le {a b : Door} (n : a.name ≠ b.name) : PySem.W.dataLe false doorD a b = true → sLt a.name b.name := by
  intro h
  have e : (!PySem.W.dataLt (doorD b) (doorD a)) = true := h
  have al : PySem.W.alike (.str b.name) (.str a.name) = true := by simp [PySem.W.alike]
  unfold doorD at e
  rw [PySem.W.dataLt_tuple, PySem.W.dataLt_cons al] at e
  have ne : ¬ (PyData.eqv (.str b.name) (.str a.name) = true) := by
    simp only [PyData.eqv, beq_iff_eq]
    exact Ne.symm n
  rw [if_neg ne, PySem.W.dataLt_str] at e
  refine sLt_of ?_ n
  simpa [sLe, ltCps_eq] using e
/-- doors that are rising, in whatever order they come: sorted they are what they were -/
theorem sort_doors {β : Type} {f : β → Door} {bs : List β} {ds : List Door} (hp : (bs.map f).Perm ds) (hs : Rising ds) : (bs.mergeSort (PySem.W.dataLe false fun b => doorD (f b))).map f = ds := by
  have e : (bs.mergeSort (PySem.W.dataLe false fun b => doorD (f b))).map f = (bs.map f).mergeSort (PySem.W.dataLe false doorD) := PySem.W.sort_maps f (fun _ _ _ _ => rfl)
  rw [e]
  have pm : ((bs.map f).mergeSort (PySem.W.dataLe false doorD)).Perm ds := (List.mergeSort_perm _ _).trans hp
  refine perm_eq (R := fun (a b : Door) => sLt a.name b.name) (fun x y h1 h2 => absurd (sLt_trans h1 h2) (sLt_irrefl _)) pm ?_ hs
  have tot : PySem.W.TotalLe (PySem.W.dataLe (β := Door) false doorD) := PySem.W.sortLe_total _ _ _
  have srt := PySem.W.sort_pairwise tot (bs.map f)
  have nd : (((bs.map f).mergeSort (PySem.W.dataLe false doorD)).map (·.name)).Nodup := by
    refine (pm.map (·.name)).nodup_iff.mpr ?_
    refine List.pairwise_map.mpr (hs.imp ?_)
    intro a b h z
    rw [z] at h
    exact sLt_irrefl _ h
  have nd2 := List.pairwise_map.mp nd
  exact (srt.and nd2).imp fun {a b} ⟨h1, h2⟩ => door_le h2 h1
theorem doors_alike {β : Type} (f : β → Door) (bs : List β) : PySem.W.AllAlike (bs.map fun b => doorD (f b)) := by
  intro d hd d' hd'
  obtain ⟨a, _, rfl⟩ := List.mem_map.mp hd
  obtain ⟨b, _, rfl⟩ := List.mem_map.mp hd'
  simp [doorD, PySem.W.alike, PySem.W.alikeAll]
theorem doors_sortable {β : Type} (f : β → Door) (bs : List β) : PySem.W.Sortable (bs.map fun b => doorD (f b)) := by
  refine Or.inl fun d hd => ?_
  obtain ⟨a, _, rfl⟩ := List.mem_map.mp hd
  exact ⟨_, _, rfl⟩
/-! ### sorted texts, sorted keys -/
theorem s_sortS {K : PySem.W.Frag} {H : Hp} {Q : VK} {a : Addr} {xs : List Str} (h : SqL K H a (xs.map V.str)) (l : xs.length < 64) (q : ∀ ys : List Str, ys.Perm xs → ys.Pairwise sLe → rNO H (.lst (ys.map V.str)) fun p H' => Q (.ref p) H') : rSortedS K [.ref a] H Q :=
  ⟨a, xs, rfl, h, l, fun ys p pm so hp => q ys pm (sorted_le so) p hp⟩
def rSortK : List V → Hp → VK → Prop := fun xs H Q => ∃ (a : Addr) (kvs : List (Key × V)) (ks : List Str), xs = [.ref a] ∧ Rd H a (.dK kvs) ∧ kvs.map (·.1) = ks.map Sum.inr ∧ ks.length < 64 ∧ ∀ ys p, ys.Perm ks → sortedS ys = true → H p = none → Q (.ref p) (upd H p (.lst (ys.map V.str)))
theorem call_sortedK {X : Cx} (hc : X.calm = true) : CallR X (.builtin "sorted") rSortK := call_sortedD hc
theorem s_sortK {H : Hp} {Q : VK} {a : Addr} {kvs : List (Key × V)} {ks : List Str} (h : H a = some (.dK kvs)) (e : kvs.map (·.1) = ks.map Sum.inr) (l : ks.length < 64) (q : ∀ ys : List Str, ys.Perm ks → ys.Pairwise sLe → rNO H (.lst (ys.map V.str)) fun p H' => Q (.ref p) H') : rSortK [.ref a] H Q :=
  ⟨a, kvs, ks, rfl, .inl h, e, l, fun ys p pm so hp => q ys pm (sorted_le so) p hp⟩
/-! ### dicts by text keys -/
theorem mem_putK {kvs : List (Key × V)} {k : Key} {v : V} {x : Key × V} (h : x ∈ putK kvs k v) : x = (k, v) ∨ (x ∈ kvs ∧ x.1 ≠ k) := by
  unfold putK at h
  split at h
  · obtain ⟨y, hy, e⟩ := List.mem_map.mp h
    by_cases c : y.1 = k
    · rw [if_pos c] at e
      exact Or.inl (by rw [← e, c])
    · rw [if_neg c] at e
      exact Or.inr (by rw [← e]; exact ⟨hy, c⟩)
  · next hn =>
    rcases List.mem_append.mp h with h | h
    · refine Or.inr ⟨h, fun c => hn ?_⟩
      exact List.any_eq_true.mpr ⟨x, h, decide_eq_true c⟩
    · exact Or.inl (List.mem_singleton.mp h)
theorem putK_le (kvs : List (Key × V)) (k : Key) (v : V) : (putK kvs k v).length ≤ kvs.length + 1 := by
  unfold putK
  split
  · rw [List.length_map]; omega
  · rw [List.length_append]; exact Nat.le_refl _
theorem nodup_putK {kvs : List (Key × V)} {k : Key} {v : V} (h : (kvs.map (·.1)).Nodup) : ((putK kvs k v).map (·.1)).Nodup := by
  cases e : valV kvs k with
  | none => exact nd_putK v h e
  | some u =>
    have c : (kvs.any fun kv => decide (kv.1 = k)) = true := by rw [valV_any, e]; rfl
    unfold putK
    rw [if_pos c, List.map_map]
    have : ((fun x : Key × V => x.1) ∘ fun kv : Key × V => if kv.1 = k then (kv.1, v) else kv) = fun x => x.1 := by
      funext y
      show (if y.1 = k then (y.1, v) else y).1 = y.1
      split <;> rfl
    rw [this]
    exact h
theorem valV_mem {kvs : List (Key × V)} {k : Key} (h : k ∈ kvs.map (·.1)) : ∃ v, valV kvs k = some v ∧ (k, v) ∈ kvs := by
  induction kvs with
  | nil => simp at h
  | cons p r ih =>
    by_cases c : p.1 = k
    · exact ⟨p.2, valV_pos c, by rw [← c]; exact List.mem_cons_self⟩
    · have h' : k ∈ r.map (·.1) := by
        rw [List.map_cons] at h
        rcases List.mem_cons.mp h with e | h
        · exact absurd e.symm c
        · exact h
      obtain ⟨v, h1, h2⟩ := ih h'
      exact ⟨v, by rw [valV_neg c]; exact h1, List.mem_cons_of_mem _ h2⟩
/-- all keys are texts -/
theorem keys_texts : ∀ {kvs : List (Key × V)}, (∀ x ∈ kvs, ∃ z, x.1 = Sum.inr z) → ∃ ks : List Str, kvs.map (·.1) = ks.map Sum.inr
  | [], _ => ⟨[], rfl⟩
  | p :: r, h => by
    obtain ⟨z, hz⟩ := h p List.mem_cons_self
    obtain ⟨ks, hk⟩ := keys_texts (kvs := r) fun x hx => h x (List.mem_cons_of_mem _ hx)
    exact ⟨z :: ks, by rw [List.map_cons, List.map_cons, hz, hk]⟩
/-! ### a sort as plain data -/
structure SData where
  rooms : List Str
  doors : List Door
structure DOk (rooms : List Str) (d : Door) : Prop where
  nm : Nm d.name
  rm : d.room ∈ rooms
  mv : -1 ≤ d.move ∧ d.move ≤ 1
  gl : Nm d.goal
  pr : 1 ≤ d.price ∧ d.price ≤ 99
structure SOk (S : SData) : Prop where
  rs : S.rooms.Pairwise sLe
  rl : 1 ≤ S.rooms.length ∧ S.rooms.length ≤ 18
  rn : ∀ z ∈ S.rooms, Nm z
  dl : S.doors.length ≤ 18
  dr : Rising S.doors
  dd : ∀ d ∈ S.doors, DOk S.rooms d
def sortK (ra da : Addr) : List (Key × V) := [(.inr "rooms", .ref ra), (.inr "doors", .ref da)]
theorem sortK_rooms (ra da : Addr) : valV (sortK ra da) (.inr "rooms") = some (.ref ra) := by simp [sortK, valV]
theorem sortK_doors (ra da : Addr) : valV (sortK ra da) (.inr "doors") = some (.ref da) := by simp [sortK, valV, key_iff, ofS_iff]
theorem make_sort (ra da : Addr) : mergeK [] (sortK ra da) = sortK ra da := by simp [sortK, mergeK, putK, key_iff, ofS_iff]
/-- a sort as a dict stands at v; av: what its own objects are not -/
def SortAt (av : Addr → Prop) (H : Hp) (v : V) (S : SData) : Prop := ∃ (a ra da : Addr) (ts : List V), v = .ref a ∧ (¬ av a ∧ ¬ av ra ∧ ¬ av da) ∧ H a = some (.dK (sortK ra da)) ∧ H ra = some (.lst (S.rooms.map V.str)) ∧ H da = some (.lst ts) ∧ DoorsAt H ts S.doors
section
variable {av av' : Addr → Prop} {H H' : Hp} {v : V} {S : SData}
theorem SortAt.weak (h : SortAt av H v S) (w : ∀ q, av' q → av q) : SortAt av' H v S := by
  obtain ⟨a, ra, da, ts, rfl, ⟨x1, x2, x3⟩, h⟩ := h
  exact ⟨a, ra, da, ts, rfl, ⟨fun z => x1 (w _ z), fun z => x2 (w _ z), fun z => x3 (w _ z)⟩, h⟩
theorem SortAt.same (h : SortAt av H v S) (s : Same H H') : SortAt av H' v S := by
  obtain ⟨a, ra, da, ts, rfl, x, h1, h2, h3, h4⟩ := h
  exact ⟨a, ra, da, ts, rfl, x, s _ _ h1, s _ _ h2, s _ _ h3, h4.same s⟩
theorem SortAt.sb {p c : Addr} {n : Nat} (h : SortAt av H v S) (s : Sb p H H') (hP : Pen H p c n) : SortAt av H' v S := by
  obtain ⟨a, ra, da, ts, rfl, x, h1, h2, h3, h4⟩ := h
  have na : a ≠ p := by
    obtain ⟨ns, t, r, q1, _⟩ := hP
    refine ne_of h1 q1 (fun z => ?_)
    have := HO.dK.inj z
    simp [sortK, penK] at this
  exact ⟨a, ra, da, ts, rfl, x, s _ _ na h1, s _ _ (hP.ne h2) h2, s _ _ (hP.ne h3) h3, h4.sb s hP.noT⟩
/-- a list that is avoided has changed -/
theorem SortAt.mutL {l : Addr} {xs : List V} (h : SortAt av H v S) (hl : av l) (e : H l = some (.lst xs)) (s : Sb l H H') : SortAt av H' v S := by
  obtain ⟨a, ra, da, ts, rfl, ⟨x1, x2, x3⟩, h1, h2, h3, h4⟩ := h
  exact ⟨a, ra, da, ts, rfl, ⟨x1, x2, x3⟩, s _ _ (fun z => x1 (z ▸ hl)) h1, s _ _ (fun z => x2 (z ▸ hl)) h2, s _ _ (fun z => x3 (z ▸ hl)) h3, h4.sb s (noT_of e)⟩
end
/-- a list of texts stands at v -/
def StrsAt (av : Addr → Prop) (H : Hp) (v : V) (zs : List Str) : Prop := ∃ a : Addr, v = .ref a ∧ ¬ av a ∧ H a = some (.lst (zs.map V.str))
section
variable {av av' : Addr → Prop} {H H' : Hp} {v : V} {zs : List Str}
theorem StrsAt.weak (h : StrsAt av H v zs) (w : ∀ q, av' q → av q) : StrsAt av' H v zs := by
  obtain ⟨a, rfl, x, h⟩ := h
  exact ⟨a, rfl, fun z => x (w _ z), h⟩
theorem StrsAt.same (h : StrsAt av H v zs) (s : Same H H') : StrsAt av H' v zs := by
  obtain ⟨a, rfl, x, h⟩ := h
  exact ⟨a, rfl, x, s _ _ h⟩
theorem StrsAt.sb {p c : Addr} {n : Nat} (h : StrsAt av H v zs) (s : Sb p H H') (hP : Pen H p c n) : StrsAt av H' v zs := by
  obtain ⟨a, rfl, x, h⟩ := h
  exact ⟨a, rfl, x, s _ _ (hP.ne h) h⟩
theorem StrsAt.mutL {l : Addr} (h : StrsAt av H v zs) (hl : av l) (s : Sb l H H') : StrsAt av H' v zs := by
  obtain ⟨a, rfl, x, h⟩ := h
  exact ⟨a, rfl, x, s _ _ (fun z => x (z ▸ hl)) h⟩
end
theorem Each.imp {α β : Type} {R R' : α → β → Prop} (f : ∀ a b, R a b → R' a b) : ∀ {as : List α} {bs : List β}, PySem.W.EachIs R as bs → PySem.W.EachIs R' as bs
  | _, _, .nil => .nil
  | _, _, .cons r t => .cons (f _ _ r) (Each.imp f t)
theorem Each.snoc {α β : Type} {R : α → β → Prop} {a : α} {b : β} (h : R a b) : ∀ {as : List α} {bs : List β}, PySem.W.EachIs R as bs → PySem.W.EachIs R (as ++ [a]) (bs ++ [b])
  | _, _, .nil => .cons h .nil
  | _, _, .cons r t => .cons r (Each.snoc h t)
theorem Each.get {α β : Type} {R : α → β → Prop} : ∀ {as : List α} {bs : List β} {i : Nat} {a : α}, PySem.W.EachIs R as bs → as[i]? = some a → ∃ b, bs[i]? = some b ∧ R a b
  | _, _, 0, _, .cons r t, e => ⟨_, rfl, by simp at e; rw [← e]; exact r⟩
  | _, _, i + 1, _, .cons r t, e => by
    obtain ⟨d, h1, h2⟩ := Each.get (i := i) t (by simpa using e)
    exact ⟨d, by simpa using h1, h2⟩
theorem Each.drop {α β : Type} {R : α → β → Prop} : ∀ {as : List α} {bs : List β} (n : Nat), PySem.W.EachIs R as bs → PySem.W.EachIs R (as.drop n) (bs.drop n)
  | _, _, 0, h => h
  | _, _, _ + 1, .nil => .nil
  | _, _, n + 1, .cons _ t => Each.drop n t
theorem Each.dropLast {α β : Type} {R : α → β → Prop} : ∀ {as : List α} {bs : List β}, PySem.W.EachIs R as bs → PySem.W.EachIs R as.dropLast bs.dropLast
  | _, _, .nil => .nil
  | _, _, .cons _ .nil => .nil
  | _, _, .cons r (.cons r2 t) => .cons r (Each.dropLast (.cons r2 t))
theorem Each.rev {α β : Type} {R : α → β → Prop} : ∀ {as : List α} {bs : List β}, PySem.W.EachIs R as bs → PySem.W.EachIs R as.reverse bs.reverse
  | _, _, .nil => .nil
  | _, _, .cons r t => by
    rw [List.reverse_cons, List.reverse_cons]
    exact Each.snoc r (Each.rev t)
/-! ### streets as plain data -/
structure TData where
  left : SData
  first : Int
  odd : List SData
  right : SData
structure TOk (T : TData) : Prop where
  l : SOk T.left
  r : SOk T.right
  o : ∀ S ∈ T.odd, SOk S
  n : T.odd.length ≤ 8
  f : -50 ≤ T.first ∧ T.first ≤ 50
def streetK (lv : V) (f : Int) (oa : Addr) (rv : V) : List (Key × V) := [(.inr "left", lv), (.inr "first", .int f), (.inr "odd", .ref oa), (.inr "right", rv)]
theorem streetK_left (lv : V) (f : Int) (oa : Addr) (rv : V) : valV (streetK lv f oa rv) (.inr "left") = some lv := by simp [streetK, valV]
theorem streetK_first (lv : V) (f : Int) (oa : Addr) (rv : V) : valV (streetK lv f oa rv) (.inr "first") = some (.int f) := by simp [streetK, valV, ofS_iff]
theorem streetK_odd (lv : V) (f : Int) (oa : Addr) (rv : V) : valV (streetK lv f oa rv) (.inr "odd") = some (.ref oa) := by simp [streetK, valV, ofS_iff]
theorem streetK_right (lv : V) (f : Int) (oa : Addr) (rv : V) : valV (streetK lv f oa rv) (.inr "right") = some rv := by simp [streetK, valV, ofS_iff]
theorem make_street (lv : V) (f : Int) (oa : Addr) (rv : V) : mergeK [] (streetK lv f oa rv) = streetK lv f oa rv := by simp [streetK, mergeK, putK, ofS_iff]
def StreetAt (av : Addr → Prop) (H : Hp) (v : V) (T : TData) : Prop := ∃ (a oa : Addr) (lv rv : V) (os : List V), v = .ref a ∧ (¬ av a ∧ ¬ av oa) ∧ H a = some (.dK (streetK lv T.first oa rv)) ∧ SortAt av H lv T.left ∧ SortAt av H rv T.right ∧ H oa = some (.lst os) ∧ PySem.W.EachIs (SortAt av H) os T.odd
section
variable {av av' : Addr → Prop} {H H' : Hp} {v : V} {T : TData}
theorem StreetAt.weak (h : StreetAt av H v T) (w : ∀ q, av' q → av q) : StreetAt av' H v T := by
  obtain ⟨a, oa, lv, rv, os, rfl, ⟨x1, x2⟩, h1, h2, h3, h4, h5⟩ := h
  exact ⟨a, oa, lv, rv, os, rfl, ⟨fun z => x1 (w _ z), fun z => x2 (w _ z)⟩, h1, h2.weak w, h3.weak w, h4, Each.imp (fun _ _ z => z.weak w) h5⟩
theorem StreetAt.same (h : StreetAt av H v T) (s : Same H H') : StreetAt av H' v T := by
  obtain ⟨a, oa, lv, rv, os, rfl, x, h1, h2, h3, h4, h5⟩ := h
  exact ⟨a, oa, lv, rv, os, rfl, x, s _ _ h1, h2.same s, h3.same s, s _ _ h4, Each.imp (fun _ _ z => z.same s) h5⟩
theorem StreetAt.sb {p c : Addr} {n : Nat} (h : StreetAt av H v T) (s : Sb p H H') (hP : Pen H p c n) : StreetAt av H' v T := by
  obtain ⟨a, oa, lv, rv, os, rfl, x, h1, h2, h3, h4, h5⟩ := h
  have na : a ≠ p := by
    obtain ⟨ns, t, r, q1, _⟩ := hP
    refine ne_of h1 q1 (fun z => ?_)
    have := HO.dK.inj z
    simp [streetK, penK] at this
  exact ⟨a, oa, lv, rv, os, rfl, x, s _ _ na h1, h2.sb s hP, h3.sb s hP, s _ _ (hP.ne h4) h4, Each.imp (fun _ _ z => z.sb s hP) h5⟩
theorem StreetAt.mutL {l : Addr} {xs : List V} (h : StreetAt av H v T) (hl : av l) (e : H l = some (.lst xs)) (s : Sb l H H') : StreetAt av H' v T := by
  obtain ⟨a, oa, lv, rv, os, rfl, ⟨x1, x2⟩, h1, h2, h3, h4, h5⟩ := h
  exact ⟨a, oa, lv, rv, os, rfl, ⟨x1, x2⟩, s _ _ (fun z => x1 (z ▸ hl)) h1, h2.mutL hl e s, h3.mutL hl e s, s _ _ (fun z => x2 (z ▸ hl)) h4, Each.imp (fun _ _ z => z.mutL hl e s) h5⟩
end
theorem Sb.some' {p c q : Addr} {n : Nat} {H H' : Hp} (s : Sb p H H') (hP : Pen H' p c n) (h : H q ≠ none) : H' q ≠ none := by
  by_cases e : q = p
  · obtain ⟨ns, t, r, h1, _⟩ := hP
    rw [e, h1]
    exact fun z => nomatch z
  · cases hq : H q with
    | none => exact absurd hq h
    | some o => rw [s q o e hq]; exact fun z => nomatch z
theorem Same.some' {q : Addr} {H H' : Hp} (s : Same H H') (h : H q ≠ none) : H' q ≠ none := by
  cases hq : H q with
  | none => exact absurd hq h
  | some o => rw [s q o hq]; exact fun z => nomatch z
theorem at_last {α : Type} {xs : List α} (h : 0 < xs.length) : atI xs (-1) = some (xs[xs.length - 1]) := by
  unfold atI ixN
  rw [if_neg (by decide), if_pos (by omega)]
  show xs[((-1 : Int) + xs.length).toNat]? = _
  rw [show ((-1 : Int) + xs.length).toNat = xs.length - 1 by omega]
  exact List.getElem?_eq_getElem (by omega)
theorem at_zero {α : Type} {xs : List α} (h : 0 < xs.length) : atI xs 0 = some (xs[0]) := atI_nat (j := 0) (List.getElem?_eq_getElem h)
theorem Each.len {α β : Type} {R : α → β → Prop} : ∀ {as : List α} {bs : List β}, PySem.W.EachIs R as bs → as.length = bs.length := fun h => h.length
theorem Each.at {α β : Type} {R : α → β → Prop} {as : List α} {bs : List β} (h : PySem.W.EachIs R as bs) {i : Nat} (hi : i < as.length) : ∃ hb : i < bs.length, R as[i] bs[i] := by
  obtain ⟨b, h1, h2⟩ := Each.get h (List.getElem?_eq_getElem hi)
  obtain ⟨hb, e⟩ := List.getElem?_eq_some_iff.mp h1
  exact ⟨hb, by rw [e]; exact h2⟩
theorem perm_of_map {α β : Type} {f : α → β} {g : β → α} (h : ∀ a, g (f a) = a) {ys : List β} {xs : List α} (p : ys.Perm (xs.map f)) : ∃ ws : List α, ws.Perm xs ∧ ys = ws.map f := by
  refine ⟨ys.map g, ?_, ?_⟩
  · have := p.map g
    rw [List.map_map] at this
    have e : (g ∘ f) = id := by funext a; exact h a
    rw [e, List.map_id] at this
    exact this
  · rw [List.map_map]
    have : ∀ y ∈ ys, y = (f ∘ g) y := by
      intro y hy
      obtain ⟨a, _, rfl⟩ := List.mem_map.mp (p.mem_iff.mp hy)
      show f a = f (g (f a))
      rw [h]
    have e := List.map_congr_left this
    rw [List.map_id'] at e
    exact e
def unS : V → Str
  | .str z => z
  | _ => ⟨#[]⟩
theorem perm_strs {ys : List V} {xs : List Str} (p : ys.Perm (xs.map V.str)) : ∃ ws : List Str, ws.Perm xs ∧ ys = ws.map V.str := perm_of_map (g := unS) (fun _ => rfl) p
theorem Each.repl {α β : Type} {R : α → β → Prop} {a : α} {b : β} (h : R a b) : ∀ n : Nat, PySem.W.EachIs R (List.replicate n a) (List.replicate n b)
  | 0 => .nil
  | n + 1 => .cons h (Each.repl h n)
/-- what is told of each item of a list in another order -/
theorem Each.perm {α β : Type} {R : α → β → Prop} {as as' : List α} {bs : List β} (h : PySem.W.EachIs R as bs) (p : as'.Perm as) : ∃ bs' : List β, bs'.Perm bs ∧ PySem.W.EachIs R as' bs' := by
  induction p generalizing bs with
  | nil => cases h; exact ⟨[], .refl _, .nil⟩
  | cons a _ ih =>
    cases h with
    | cons r t =>
      obtain ⟨bs', p', h'⟩ := ih t
      exact ⟨_ :: bs', p'.cons _, .cons r h'⟩
  | swap a a' l =>
    cases h with
    | cons r t => cases t with
      | cons r' t' => exact ⟨_ :: _ :: _, List.Perm.swap _ _ _, .cons r' (.cons r t')⟩
  | trans _ _ ih1 ih2 =>
    obtain ⟨b2, p2, h2⟩ := ih2 h
    obtain ⟨b1, p1, h1⟩ := ih1 h2
    exact ⟨b1, p1.trans p2, h1⟩
/-! ### a list or a tuple, walked -/
def Sq (H : Hp) (a : Addr) (xs : List V) : Prop := H a = some (.lst xs) ∨ H a = some (.tup xs)
def iSq (K : PySem.W.Frag) (tl : TE) : TI := fun σ H R => tl σ H fun x H1 => (∃ a, x = .ref a ∧ (∃ xs, SqL K H1 a xs) ∧ R (Itl K a) H1) ∨ (∃ a, x = .ref a ∧ (∃ xs, SqT K H1 a xs) ∧ R (Itt K a) H1)
theorem pi_sq {X : Cx} {tg e : Expr} {tl : TE} (he : PE X e tl) : PI X tg e (iSq X.K tl) := by
  constructor
  intro pins s σ H R I h
  refine thn (he.run pins s σ H _ I h) fun v s1 got => ?_
  obtain ⟨x, H1, I1, rx, q⟩ := got
  have new : ∀ b ∈ [s1.heap.objs.size], FpOk X pins H1 b := by
    intro b hb
    rw [List.mem_singleton] at hb
    rw [hb]
    exact I1.fpOk (Nat.le_refl _) (I1.hok.fresh (Nat.le_refl _))
  rcases q with ⟨a, rfl, ⟨xs, hx⟩, r⟩ | ⟨a, rfl, ⟨xs, hx⟩, r⟩
  · cases rx
    obtain ⟨its, _, pl, _⟩ := I1.list hx
    refine wpAny_pyIter_list pl.isList ⟨s1.heap.objs.size, [s1.heap.objs.size], _, _, H1, rfl, ?_, turn_list a _, ⟨_, Heap.get?_push_size _ rfl, rfl, rfl⟩, new, r⟩
    exact I1.kept (t' := s1.toks) fun b o z => Heap.get?_push_of_some _ z
  · cases rx
    obtain ⟨its, _, pl, _⟩ := I1.tuple hx
    refine wpAny_pyIter_tuple (show s1.heap.IsTuple a its.toArray from pl) ⟨s1.heap.objs.size, [s1.heap.objs.size], _, _, H1, rfl, ?_, turn_tuple a _, ⟨_, Heap.get?_push_size _ rfl, rfl, rfl⟩, new, r⟩
    exact I1.kept (t' := s1.toks) fun b o z => Heap.get?_push_of_some _ z
def rLcS (K : PySem.W.Frag) (g : TG) (tt : TT) (te : TE) (vs : List Nat) (σ : L2.St) (x : V) (H1 : Hp) (f : Addr → Hp → Prop) : Prop := rLcL K g tt te vs σ x H1 f ∨ rLcT K g tt te vs σ x H1 f
theorem s_lcS {K : PySem.W.Frag} {g : TG} {tt : TT} {te : TE} {vs : List Nat} {tl : TE} {σ : L2.St} {H : Hp} {Q : VK} (q : tl σ H fun x H1 => rLcS K g tt te vs σ x H1 fun D H2 => Q (.ref D) H2) : tLc (iSq K tl) g tt te vs σ H Q := q
theorem s_lcSI {K : PySem.W.Frag} {σ : L2.St} {H : Hp} {i : Nat} {te : TE} {a : Addr} {xs : List V} {f : Addr → Hp → Prop} (Pv : Addr → Nat → List V → Hp → Prop) (hx : Sq H a xs) (h0 : ∀ D H', H D = none → Same H H' → H' D = some (.lst []) → Pv D 0 [] H')
    (hl : ∀ D k acc H' o, H D = none → Pv D k acc H' → H a = some o → H' a = some o)
    (hs : ∀ D (k : Nat) acc x H', H D = none → xs[k]? = some x → acc.length = k → H' D = some (.lst acc) → Pv D k acc H' → te ((wipe σ [i]).set i (some x)) H' fun y H4 => rAcc D y H4 (AccI (Pv D) D (k + 1)))
    (hd : ∀ D acc H', H D = none → acc.length = xs.length → H' D = some (.lst acc) → Pv D xs.length acc H' → f D H') : rLcS K (gName i) tYes te [i] σ (.ref a) H f := by
  rcases hx with hx | hx
  · exact Or.inl (s_lcLI Pv (SqL.of hx) h0 (fun D k acc H' hD p => SqL.of (hl D k acc H' _ hD p hx)) hs hd)
  · exact Or.inr (s_lcTI Pv (SqT.of hx) h0 (fun D k acc H' hD p => SqT.of (hl D k acc H' _ hD p hx)) hs hd)
/-! ### objects made, ints -/
def rMake (C : Addr) (sp : Sp) (vs : List V) (H : Hp) (E : XK) (f : Addr → Hp → Prop) : Prop := ∀ x dx, H x = none → H dx = none → dx ≠ x → sp (.ref x :: vs) (upd (upd H dx (.own x)) x (.ins C dx [])) (fun v H2 => v = .non ∧ f x H2) E
theorem s_make {C : Addr} {sp : Sp} {E : XK} {t : TA} {σ : L2.St} {H : Hp} {Q : VK} (q : t σ H fun vs H1 => rMake C sp (vs ++ []) H1 E fun x H2 => Q (.ref x) H2) : tMake C sp [] E t σ H Q := q
theorem s_mkO {C : Addr} {sp : Sp} {vs : List V} {H : Hp} {E : XK} {f : Addr → Hp → Prop} (q : ∀ x dx H', H x = none → H dx = none → Same H H' → H' x = some (.ins C dx []) → sp (.ref x :: vs) H' (fun v H2 => v = .non ∧ f x H2) E) : rMake C sp vs H E f := by
  intro x dx hx hdx n
  refine q x dx _ hx hdx ?_ upd_same
  exact Same.new (Same.new (Same.refl H) hdx) hx
def rIntI : List V → Hp → VK → Prop := fun xs H Q => ∃ i, xs = [.int i] ∧ Q (.int i) H
theorem call_intI {X : Cx} : CallR X (.type "int") rIntI := fun pins s σ H xs us Q I r h => call_int1 pins s σ H xs us Q I r (Or.inl h)
theorem s_intI {i : Int} {H : Hp} {Q : VK} (q : Q (.int i) H) : rIntI [.int i] H Q := ⟨i, rfl, q⟩
/-! ### a Sort object -/
def sortF (ra da : Addr) : List (Str × V) := putF "_doors" (.ref da) (putF "_rooms" (.ref ra) [])
theorem nrd : ¬ (("_rooms" : Str) = "_doors") := by decide +kernel
theorem ndr : ¬ (("_doors" : Str) = "_rooms") := by decide +kernel
theorem sortF_rooms (ra da : Addr) : (sortF ra da).lookup ("_rooms" : Str) = some (.ref ra) := by
  unfold sortF
  rw [lookup_putF, if_neg nrd, lookup_putF, if_pos rfl]
theorem sortF_doors (ra da : Addr) : (sortF ra da).lookup ("_doors" : Str) = some (.ref da) := by
  unfold sortF
  rw [lookup_putF, if_pos rfl]
theorem sortF_no (ra da : Addr) {m : Str} (h1 : ¬ m = "_rooms") (h2 : ¬ m = "_doors") : (sortF ra da).lookup m = none := by
  unfold sortF
  rw [lookup_putF, if_neg h2, lookup_putF, if_neg h1]
  rfl
def SortO (C : Addr) (av : Addr → Prop) (H : Hp) (v : V) (S : SData) : Prop := ∃ (x dx ra da : Addr) (ts : List V), v = .ref x ∧ (¬ av x ∧ ¬ av ra ∧ ¬ av da) ∧ H x = some (.ins C dx (sortF ra da)) ∧ H ra = some (.lst (S.rooms.map V.str)) ∧ H da = some (.lst ts) ∧ DoorsAt H ts S.doors
section
variable {C : Addr} {av av' : Addr → Prop} {H H' : Hp} {v : V} {S : SData}
theorem SortO.weak (h : SortO C av H v S) (w : ∀ q, av' q → av q) : SortO C av' H v S := by
  obtain ⟨x, dx, ra, da, ts, rfl, ⟨x1, x2, x3⟩, h⟩ := h
  exact ⟨x, dx, ra, da, ts, rfl, ⟨fun z => x1 (w _ z), fun z => x2 (w _ z), fun z => x3 (w _ z)⟩, h⟩
theorem SortO.same (h : SortO C av H v S) (s : Same H H') : SortO C av H' v S := by
  obtain ⟨x, dx, ra, da, ts, rfl, n, h1, h2, h3, h4⟩ := h
  exact ⟨x, dx, ra, da, ts, rfl, n, s _ _ h1, s _ _ h2, s _ _ h3, h4.same s⟩
theorem SortO.sb {p c : Addr} {n : Nat} (h : SortO C av H v S) (s : Sb p H H') (hP : Pen H p c n) : SortO C av H' v S := by
  obtain ⟨x, dx, ra, da, ts, rfl, m, h1, h2, h3, h4⟩ := h
  exact ⟨x, dx, ra, da, ts, rfl, m, s _ _ (hP.neI h1) h1, s _ _ (hP.ne h2) h2, s _ _ (hP.ne h3) h3, h4.sb s hP.noT⟩
theorem SortO.mutL {l : Addr} {xs : List V} (h : SortO C av H v S) (hl : av l) (e : H l = some (.lst xs)) (s : Sb l H H') : SortO C av H' v S := by
  obtain ⟨x, dx, ra, da, ts, rfl, ⟨x1, x2, x3⟩, h1, h2, h3, h4⟩ := h
  exact ⟨x, dx, ra, da, ts, rfl, ⟨x1, x2, x3⟩, s _ _ (fun z => x1 (z ▸ hl)) h1, s _ _ (fun z => x2 (z ▸ hl)) h2, s _ _ (fun z => x3 (z ▸ hl)) h3, h4.sb s (noT_of e)⟩
end
end LH
end
section
set_option maxRecDepth 100000
set_option maxHeartbeats 4000000
namespace LH
open PySem L2 PyProof.Rows
/-! ### methods -/
def rMeth (C : Addr) (m : Str) (x : V) (H1 : Hp) (R : Prop) : Prop := ∃ a dx fs, x = .ref a ∧ H1 a = some (.ins C dx fs) ∧ fs.lookup m = none ∧ R
section
variable {σ : L2.St} {H : Hp} {Q : VK}
theorem s_methO {C : Addr} {m : Str} {sp : Sp} {E : XK} {ta : TE} {t : TA} (q : ta σ H fun x H1 => rMeth C m x H1 (t σ H1 fun vs H2 => sp (x :: (vs ++ [])) H2 Q E)) : tMeth C m sp [] E ta t σ H Q := q
theorem s_methV {C a dx : Addr} {fs : List (Str × V)} {m : Str} {R : Prop} (h : H a = some (.ins C dx fs)) (n : fs.lookup m = none) (q : R) : rMeth C m (.ref a) H R := ⟨a, dx, fs, rfl, h, n, q⟩
end
/-! ### doors beside what stands for them -/
theorem doors_zip {H : Hp} : ∀ {ts : List V} {ds : List Door}, DoorsAt H ts ds → ∃ bs : List (V × Door), bs.map (·.1) = ts ∧ bs.map (·.2) = ds ∧ ∀ b ∈ bs, DoorAt H b.1 b.2
  | _, _, .nil => ⟨[], rfl, rfl, by simp⟩
  | _, _, .cons r t => by
    obtain ⟨bs, h1, h2, h3⟩ := doors_zip t
    refine ⟨(_, _) :: bs, by rw [List.map_cons, h1], by rw [List.map_cons, h2], ?_⟩
    intro b hb
    rcases List.mem_cons.mp hb with rfl | hb
    · exact r
    · exact h3 b hb
theorem doors_of {H : Hp} : ∀ {bs : List (V × Door)}, (∀ b ∈ bs, DoorAt H b.1 b.2) → DoorsAt H (bs.map (·.1)) (bs.map (·.2))
  | [], _ => .nil
  | b :: r, h => .cons (h b List.mem_cons_self) (doors_of fun c hc => h c (List.mem_cons_of_mem _ hc))
theorem door_depth (d : Door) : (doorD d).depth ≤ 20 := by
  simp [doorD, PyData.depth, PyData.depthAll]
theorem s_sortDoors {K : PySem.W.Frag} {H : Hp} {Q : VK} {a : Addr} {ts : List V} {ds es : List Door} (h : SqL K H a ts) (hd : DoorsAt H ts ds) (p : ds.Perm es) (r : Rising es)
    (q : ∀ ts', DoorsAt H ts' es → rNO H (.lst ts') fun l H' => Q (.ref l) H') : rSortD K [.ref a] H Q := by
  obtain ⟨bs, rfl, rfl, h3⟩ := doors_zip hd
  refine ⟨a, V × Door, (·.1), fun b => doorD b.2, bs, rfl, h, fun b hb => (h3 b hb).dp, doors_alike _ _, doors_sortable _ _, fun b _ => door_depth _, ?_⟩
  have e := sort_doors (f := fun b : V × Door => b.2) p r
  refine q _ ?_
  have z := doors_of (H := H) (bs := bs.mergeSort (PySem.W.dataLe false fun b => doorD b.2)) fun b hb => h3 b ((List.mergeSort_perm _ _).mem_iff.mp hb)
  rw [e] at z
  exact z
/-! ### Sort objects -/
section
variable {C : Addr} {av av' : Addr → Prop} {H H' : Hp} {v : V} {S : SData}
theorem SortO.mut {l : Addr} (h : SortO C av H v S) (hl : av l) (nt : ∀ xs, H l ≠ some (.tup xs)) (s : Sb l H H') : SortO C av H' v S := by
  obtain ⟨x, dx, ra, da, ts, rfl, ⟨x1, x2, x3⟩, h1, h2, h3, h4⟩ := h
  exact ⟨x, dx, ra, da, ts, rfl, ⟨x1, x2, x3⟩, s _ _ (fun z => x1 (z ▸ hl)) h1, s _ _ (fun z => x2 (z ▸ hl)) h2, s _ _ (fun z => x3 (z ▸ hl)) h3, h4.sb s nt⟩
/-- what is free or another object is none of its own -/
theorem SortO.avoid {D dy l : Addr} {fs : List (Str × V)} (h : SortO C av H v S) (e : H l = some (.ins D dy fs)) (n : fs.lookup ("_rooms" : Str) = none) : SortO C (fun q => q = l) H v S := by
  obtain ⟨x, dx, ra, da, ts, rfl, _, h1, h2, h3, h4⟩ := h
  refine ⟨x, dx, ra, da, ts, rfl, ⟨fun z => ?_, fun z => ?_, fun z => ?_⟩, h1, h2, h3, h4⟩
  · subst z
    rw [h1] at e
    injection e with e
    injection e with e1 e2 e3
    rw [← e3, sortF_rooms] at n
    cases n
  · subst z; rw [h2] at e; cases e
  · subst z; rw [h3] at e; cases e
end
theorem noT_ins {H : Hp} {l C dx : Addr} {fs : List (Str × V)} (h : H l = some (.ins C dx fs)) : ∀ ys, H l ≠ some (.tup ys) := by
  intro ys z
  rw [h] at z
  cases z
theorem Sq.same {H H' : Hp} {a : Addr} {xs : List V} (h : Sq H a xs) (s : Same H H') : Sq H' a xs := h.imp (s _ _) (s _ _)
theorem Sq.sb {H H' : Hp} {a x C dx : Addr} {xs : List V} {fs : List (Str × V)} (h : Sq H a xs) (e : H x = some (.ins C dx fs)) (s : Sb x H H') : Sq H' a xs := by
  rcases h with h | h
  · exact .inl (s _ _ (ne_of h e (by intro z; cases z)) h)
  · exact .inr (s _ _ (ne_of h e (by intro z; cases z)) h)
/-! ### Street objects -/
def streetF (lv : V) (f : Int) (oa : Addr) (rv : V) : List (Str × V) := putF "_right" rv (putF "_odd" (.ref oa) (putF "_first" (.int f) (putF "_left" lv [])))
theorem t_lf : ¬ (("_left" : Str) = "_first") := by decide +kernel
theorem t_lo : ¬ (("_left" : Str) = "_odd") := by decide +kernel
theorem t_lr : ¬ (("_left" : Str) = "_right") := by decide +kernel
theorem t_fo : ¬ (("_first" : Str) = "_odd") := by decide +kernel
theorem t_fr : ¬ (("_first" : Str) = "_right") := by decide +kernel
theorem t_or : ¬ (("_odd" : Str) = "_right") := by decide +kernel
theorem streetF_left (lv : V) (f : Int) (oa : Addr) (rv : V) : (streetF lv f oa rv).lookup ("_left" : Str) = some lv := by
  unfold streetF
  rw [lookup_putF, if_neg t_lr, lookup_putF, if_neg t_lo, lookup_putF, if_neg t_lf, lookup_putF, if_pos rfl]
theorem streetF_first (lv : V) (f : Int) (oa : Addr) (rv : V) : (streetF lv f oa rv).lookup ("_first" : Str) = some (.int f) := by
  unfold streetF
  rw [lookup_putF, if_neg t_fr, lookup_putF, if_neg t_fo, lookup_putF, if_pos rfl]
theorem streetF_odd (lv : V) (f : Int) (oa : Addr) (rv : V) : (streetF lv f oa rv).lookup ("_odd" : Str) = some (.ref oa) := by
  unfold streetF
  rw [lookup_putF, if_neg t_or, lookup_putF, if_pos rfl]
theorem streetF_right (lv : V) (f : Int) (oa : Addr) (rv : V) : (streetF lv f oa rv).lookup ("_right" : Str) = some rv := by
  unfold streetF
  rw [lookup_putF, if_pos rfl]
theorem streetF_no (lv : V) (f : Int) (oa : Addr) (rv : V) {m : Str} (h1 : ¬ m = "_left") (h2 : ¬ m = "_first") (h3 : ¬ m = "_odd") (h4 : ¬ m = "_right") : (streetF lv f oa rv).lookup m = none := by
  unfold streetF
  rw [lookup_putF, if_neg h4, lookup_putF, if_neg h3, lookup_putF, if_neg h2, lookup_putF, if_neg h1]
  rfl
def StreetO (CS CT : Addr) (av : Addr → Prop) (H : Hp) (v : V) (T : TData) : Prop := ∃ (x dx oa : Addr) (lv rv : V) (os : List V), v = .ref x ∧ (¬ av x ∧ ¬ av oa) ∧ H x = some (.ins CT dx (streetF lv T.first oa rv)) ∧ SortO CS av H lv T.left ∧ SortO CS av H rv T.right ∧ H oa = some (.lst os) ∧ PySem.W.EachIs (SortO CS av H) os T.odd
section
variable {CS CT : Addr} {av av' : Addr → Prop} {H H' : Hp} {v : V} {T : TData}
theorem StreetO.weak (h : StreetO CS CT av H v T) (w : ∀ q, av' q → av q) : StreetO CS CT av' H v T := by
  obtain ⟨x, dx, oa, lv, rv, os, rfl, ⟨x1, x2⟩, h1, h2, h3, h4, h5⟩ := h
  exact ⟨x, dx, oa, lv, rv, os, rfl, ⟨fun z => x1 (w _ z), fun z => x2 (w _ z)⟩, h1, h2.weak w, h3.weak w, h4, Each.imp (fun _ _ z => z.weak w) h5⟩
theorem StreetO.same (h : StreetO CS CT av H v T) (s : Same H H') : StreetO CS CT av H' v T := by
  obtain ⟨x, dx, oa, lv, rv, os, rfl, n, h1, h2, h3, h4, h5⟩ := h
  exact ⟨x, dx, oa, lv, rv, os, rfl, n, s _ _ h1, h2.same s, h3.same s, s _ _ h4, Each.imp (fun _ _ z => z.same s) h5⟩
theorem StreetO.mut {l : Addr} (h : StreetO CS CT av H v T) (hl : av l) (nt : ∀ xs, H l ≠ some (.tup xs)) (s : Sb l H H') : StreetO CS CT av H' v T := by
  obtain ⟨x, dx, oa, lv, rv, os, rfl, ⟨x1, x2⟩, h1, h2, h3, h4, h5⟩ := h
  exact ⟨x, dx, oa, lv, rv, os, rfl, ⟨x1, x2⟩, s _ _ (fun z => x1 (z ▸ hl)) h1, h2.mut hl nt s, h3.mut hl nt s, s _ _ (fun z => x2 (z ▸ hl)) h4, Each.imp (fun _ _ z => z.mut hl nt s) h5⟩
theorem StreetO.sb {p c : Addr} {n : Nat} (h : StreetO CS CT av H v T) (s : Sb p H H') (hP : Pen H p c n) : StreetO CS CT av H' v T := by
  obtain ⟨x, dx, oa, lv, rv, os, rfl, m, h1, h2, h3, h4, h5⟩ := h
  exact ⟨x, dx, oa, lv, rv, os, rfl, m, s _ _ (hP.neI h1) h1, h2.sb s hP, h3.sb s hP, s _ _ (hP.ne h4) h4, Each.imp (fun _ _ z => z.sb s hP) h5⟩
end
theorem putF_lt {f : Str} {y : V} : ∀ {fs : List (Str × V)} {n : Nat}, fs.length < n → (putF f y fs).length < n + 1
  | [], n, h => by
    show 1 < n + 1
    have : (0 : Nat) < n := h
    omega
  | p :: r, 0, h => absurd h (Nat.not_lt_zero _)
  | p :: r, n + 1, h => by
    unfold putF
    split
    · simp at h ⊢; omega
    · have := putF_lt (f := f) (y := y) (fs := r) (n := n) (by simpa using h)
      simp; omega
theorem Same.of_sb {x : Addr} {H H' : Hp} (s : Sb x H H') (h : H x = none) : Same H H' := fun b o e => s b o (ne_of_none e h) e
end LH
end
section
set_option maxRecDepth 100000
set_option maxHeartbeats 4000000
namespace GQ
open PySem PySem.SeqAt
open AutoSeq1 (wpAny_loadPart')
open MeetsSeq MeetsSeq2 MeetsSeq3 SeqRoads2
section
variable {prog : Program} {w : World} {A : Around} {R : Result → Shared → Prop}
/-- at each turn the list is read anew: N items, the i-th unlike x -/
def ListN (prog : Program) (w : World) (A : Around) (E : Value → Shared → Prop) (l : Addr) (x : Value) (N : Nat) (I : Nat → Shared → Prop) : Prop :=
  ∀ i s, I i s → ∃ (items : Array Value) (n : Nat), s.heap.get? l = some { cls := .type "list", data := .seq items n } ∧ items.size = N ∧
    ∀ (h1 : i < items.size), wpAny (model prog w) A.in1 (eqBool items[i] x) (fun r s' => r = false ∧ I (i + 1) s') E s
theorem none_loopG (l : Addr) (x : Value) (N : Nat) (I : Nat → Shared → Prop) (hl : ListN prog w A (fun e s' => R (.error e) s') l x N I)
    (fin : ∀ s, I N s → R (.ok (.ret (.bool false))) s) (k : Nat) :
    ∀ i : Nat, N - i = k → i ≤ N → ∀ s, I i s →
      wpAny (model prog w) A.in1 (Builtin.«list.__contains__.loop» ⟨[.ref l, x, rawInt i], []⟩) (FinOf prog w A R) (fun e s' => R (.error e) s') s := by
  induction k with
  | zero =>
    intro i hk hi s h
    obtain ⟨items, n, hl1, hs1, _⟩ := hl _ _ h
    have hi' : i = N := by omega
    have hR : R (.ok (.ret (.bool false))) s := fin s (hi' ▸ h)
    obtain ⟨hp, g, d, tk, os⟩ := s
    wp_walk using wpAny_loadPart' hl1
    have hi1 : items[((i : Nat) : Int).toNat]? = none := by simp; omega
    rw [hi1]
    wp_walk
    exact hR
  | succ k ih =>
    intro i hk hi s h
    obtain ⟨items, n, hl1, hs1, turn⟩ := hl _ _ h
    have hlt : i < items.size := by omega
    have ht := turn hlt
    obtain ⟨hp, g, d, tk, os⟩ := s
    wp_walk using wpAny_loadPart' hl1
    have hi1 : items[((i : Nat) : Int).toNat]? = some items[i] := by simp [hlt]
    have hc : ((i : Int) + 1) = ((i + 1 : Nat) : Int) := by omega
    rw [hi1]
    refine wpAny_bind (wpAny_mono ht (fun r s2 h2 => ?_) fun _ _ x => x)
    obtain ⟨hr, h2⟩ := h2
    subst hr
    have hrec := ih (i + 1) (by omega) (by omega) s2 h2
    obtain ⟨hp2, g2, d2, tk2, os2⟩ := s2
    wp_walk
    rw [hc]
    exact ⟨plainId_quiet plain_contains_loop _, codeAny_builtin entry_contains_loop (by
      rw [Around.under_plainId plain_contains_loop _]
      exact hrec)⟩
theorem none_containsG (l : Addr) (x : Value) (N : Nat) (I : Nat → Shared → Prop) (hl : ListN prog w A (fun e s' => R (.error e) s') l x N I)
    (fin : ∀ s, I N s → R (.ok (.ret (.bool false))) s) {s : Shared} (h : I 0 s) :
    wpAny (model prog w) A.in1 (Builtin.«list.__contains__» ⟨[.ref l, x], []⟩) (FinOf prog w A R) (fun e s' => R (.error e) s') s := by
  have hrec := none_loopG l x N I hl fin N 0 (by omega) (by omega) s h
  obtain ⟨items, n, hl1, _⟩ := hl _ _ h
  obtain ⟨hp, g, d, tk, os⟩ := s
  wp_walk using wpAny_loadPart' hl1
  exact ⟨plainId_quiet plain_contains_loop _, codeAny_builtin entry_contains_loop (by
    rw [Around.under_plainId plain_contains_loop _]
    exact hrec)⟩
theorem in_noneG {E : Value → Shared → Prop} {s : Shared} {l : Addr} {x : Value} {N : Nat} {Q : Value → Shared → Prop} (I : Nat → Shared → Prop) (hl : ListN prog w A E l x N I)
    (fin : ∀ s, I N s → Q (.bool false) s) (h : I 0 s) : wpAny (model prog w) A (compareOp .In x (.ref l)) Q E s := by
  obtain ⟨items, n, hl1, _, _⟩ := hl _ _ h
  show wpAny _ A (do return .bool (← contains (.ref l) x)) Q E s
  refine wpAny_bind (wpAny_contains_slot ⟨_, hl1, rfl⟩ F.slot_list_contains (call_here F.slot_list_contains ⟨_, hl1, rfl⟩ F.entry_list_contains (F.args_list_contains_2 _ _) ?_))
  exact none_containsG (R := wants _ E) l x N I hl (fun s' q => wpAny_truthy_bool (wpAny_pure (fin s' q))) h
end
end GQ
namespace LH
open PySem L2 PyProof.Rows
/-- what an own == promises of None -/
def spEqN (C : Addr) : Sp := fun vs H Q _ => ∃ a dx fs, vs = [.ref a, .non] ∧ H a = some (.ins C dx fs) ∧ ∀ H', Ext H H' → Q (.bl false) H'
def rNoneOwn (K : PySem.W.Frag) (C : Addr) : R2 := fun x y H Q => ∃ p xs, x = .non ∧ y = .ref p ∧ H p = some (.lst xs) ∧ (∀ z ∈ xs, ∃ a dx fs, z = .ref a ∧ H a = some (.ins C dx fs)) ∧ ∀ H', Ext H H' → Q (.bl false) H'
section
variable {X : Cx} {C f : Addr} {fd : FuncData} {ps : List Str} {n : Nat}
theorem none_turn (F : FnOk X.prog X.w X.K X.mg X.base CX0 n f fd ps (spEqN C)) (hs : PySem.W.findIn X.K (.ref C) "__eq__" = some (some (.ref f))) (hf : PySem.W.isFn X.K (.ref f) = true) (hb : Binds X.K fd ps [])
    {A : Around} (sb : Sub X n A) {pins : List (Addr × Obj)} {σ : L2.St} {H : Hp} {s : Shared} (I : Inv X pins σ H s) {a dx : Addr} {fs : List (Str × V)} (ha : H a = some (.ins C dx fs)) :
    wpAny (model X.prog X.w) A (eqBool (.ref a) .none) (fun r s' => r = false ∧ LoopI X pins σ H s') X.xe s := by
  unfold eqBool
  refine wpAny_holding ?_
  refine wpAny_ite_split (fun hab => absurd (eq_of_beq hab) nofun) (fun _ => ?_)
  refine wpAny_bind (wpAny_mono (Q := fun v s' => v = .bool false ∧ LoopI X pins σ H s') ?_ (fun v s' hv => ?_) fun _ _ x => x)
  · obtain ⟨mA, J, _⟩ := ins_get I.hok ha
    obtain ⟨od, J, _⟩ := J.look
    obtain ⟨m, hF⟩ := I.fr
    refine PySem.W.cmp_K (op := .Eq) (tb := .type "NoneType") sb.room.units0 hF I.ok.mod.kin J (PySem.W.Looks.of_pure rfl) (by rfl) hs hf ?_
    have hsp : spEqN C [.ref a, .non] H (fun v H' => v = .bl false ∧ Ext H H') E0 := ⟨a, dx, fs, rfl, ha, fun H' e => ⟨rfl, e⟩⟩
    have e0 : Env0 X.prog X.w X.K X.mg X.base A X.stack s H := by
      have e := I.env0
      exact ⟨by rw [sb.fr]; exact e.frames, e.mod, e.bs, e.bsz, e.funs, e.frf, e.hok, e.bare⟩
    have hl := F.len _ _ _ _ hsp
    have r2 : Vals [V.ref a, V.non] [Value.ref a, Value.none] := .cons rfl (.cons rfl .nil)
    refine wpAny_call (codeAny_mono (F.run A X.stack s H ⟨[.ref a, .none], []⟩ [.ref a, .none] [.ref a, .non] _ E0 sb.room e0 (by
      have := hb s [.ref a, .none] I.kIn (by simpa using hl)
      simpa using this) r2 hsp) fun r s' hq => ?_)
    cases r with
    | error e => exact hq.elim
    | ok fl =>
      cases fl with
      | ret w =>
        obtain ⟨z, H', I', rz, ez, ex⟩ := I.after hq
        subst ez
        cases rz
        exact ⟨rfl, H', I', ex⟩
      | next => exact False.elim hq
      | brk => exact False.elim hq
      | cont => exact False.elim hq
  · obtain ⟨rfl, q⟩ := hv
    exact wpAny_truthy_bool ⟨rfl, q⟩
theorem op_noneOwn (F : FnOk X.prog X.w X.K X.mg X.base CX0 n f fd ps (spEqN C)) (hs : PySem.W.findIn X.K (.ref C) "__eq__" = some (some (.ref f))) (hf : PySem.W.isFn X.K (.ref f) = true) (hb : Binds X.K fd ps [])
    (hr : Room (n + 1) X.A) : OpR X (compareOp .In) (rNoneOwn X.K C) := by
  intro pins s σ H x y v u Q I rx ry h
  obtain ⟨p, xs, rfl, rfl, hq, all, q⟩ := h
  cases rx
  cases ry
  refine GQ.in_noneG (N := xs.length) (fun _ s' => LoopI X pins σ H s') (fun i s' l => ?_) (fun s' l => ?_) ⟨H, I, Ext.rfl'⟩
  · obtain ⟨H1, I1, e1⟩ := l
    obtain ⟨z, its, k, r, e⟩ := I1.hok p _ (e1 _ _ hq)
    refine ⟨its.toArray, k, e, by rw [List.size_toArray, ← r.length], fun h1 => ?_⟩
    have hi : i < xs.length := by rw [r.length]; simpa using h1
    obtain ⟨u, hu, ru⟩ := r.get (List.getElem?_eq_getElem hi)
    obtain ⟨a, dx, fs, ea, ha⟩ := all _ (List.getElem_mem hi)
    rw [ea] at ru
    cases ru
    have g1 : its[i]? = some its.toArray[i] := by
      have h1' : i < its.length := by simpa using h1
      rw [List.getElem?_eq_getElem h1'] <;> simp
    rw [g1] at hu
    rw [Option.some.inj hu]
    have sb : Sub X (n + 1) X.A := ⟨hr, rfl⟩
    refine wpAny_mono (none_turn F hs hf hb sb.in1 I1 (e1 _ _ ha)) (fun r s2 z => ?_) fun _ _ x => x
    obtain ⟨hr', H2, I2, e2⟩ := z
    exact ⟨hr', H2, I2, e1.trans e2⟩
  · obtain ⟨H1, I1, e1⟩ := l
    exact ⟨.bl false, H1, I1, rfl, q H1 e1⟩
end
/-! ### len of an own object -/
def rLenO (C : Addr) (sp : Sp) : List V → Hp → VK → Prop := fun xs H Q => ∃ a dx fs, xs = [.ref a] ∧ H a = some (.ins C dx fs) ∧ sp [.ref a] H (fun v H' => ∃ k : Nat, v = .int k ∧ k < 2 ^ 60 ∧ Q (.int k) H') E0
theorem call_lenO {X : Cx} {C f : Addr} {fd : FuncData} {ps : List Str} {n : Nat} {sp : Sp} (F : FnOk X.prog X.w X.K X.mg X.base CX0 n f fd ps sp) (m : Meth X.K C "__len__" f) (hb : Binds X.K fd ps []) (hr : Room (n + 1) X.A) : CallR X (.builtin "len") (rLenO C sp) := by
  intro pins s σ H xs us Q I r h
  obtain ⟨a, dx, fs, rfl, ha, q⟩ := h
  obtain ⟨u, rfl, ru⟩ := one_val r
  cases ru
  obtain ⟨mA, J, _⟩ := ins_get I.hok ha
  obtain ⟨od, J, _⟩ := J.look
  obtain ⟨mm, hF⟩ := I.fr
  refine PySem.W.len_K hF I.ok.mod.kin J m.at_ m.fn ?_
  have sb : Sub X n X.A.in1 := Sub.in1 ⟨hr, rfl⟩
  have e0 : Env0 X.prog X.w X.K X.mg X.base X.A.in1 X.stack s H := by
    have e := I.env0
    exact ⟨by rw [sb.fr]; exact e.frames, e.mod, e.bs, e.bsz, e.funs, e.frf, e.hok, e.bare⟩
  have hl := F.len _ _ _ _ q
  have r2 : Vals [V.ref a] [Value.ref a] := .cons rfl .nil
  refine wpAny_call (codeAny_mono (F.run X.A.in1 X.stack s H ⟨[.ref a], []⟩ [.ref a] [.ref a] _ E0 sb.room e0 (by
    have := hb s [.ref a] I.kIn (by simpa using hl)
    simpa using this) r2 q) fun r s' hq => ?_)
  cases r with
  | error e => exact hq.elim
  | ok fl =>
    cases fl with
    | ret w =>
      obtain ⟨z, H', I', rz, k, ez, hk, q'⟩ := I.after hq
      subst ez
      obtain ⟨t, rfl⟩ := rz
      exact ⟨⟨by omega, by omega⟩, .int k, H', I'.tok _, ⟨_, rfl⟩, q'⟩
    | next => exact False.elim hq
    | brk => exact False.elim hq
    | cont => exact False.elim hq
end LH
end
section
set_option maxRecDepth 100000
set_option maxHeartbeats 4000000
namespace LH
open PySem L2 PyProof.Rows
/-! ### data that is small -/
structure Gd (k n : Nat) (d : PyData) : Prop where
  lay : d.canLay0 = true
  dep : d.depth ≤ k
  wt : d.weight ≤ n
  sh : d.intsShort 13 = true
  shw : d.showable = true
structure GdA (k n : Nat) (ds : List PyData) : Prop where
  lay : PyData.canLayAll0 ds = true
  dep : PyData.depthAll ds ≤ k
  wt : PyData.weightAll ds ≤ n
  sh : PyData.intsShortAll 13 ds = true
  shw : PyData.showableAll ds = true
theorem GdA.nil {k : Nat} : GdA k 0 [] := ⟨by simp [PyData.canLayAll0], by simp [PyData.depthAll], by simp [PyData.weightAll], by simp [PyData.intsShortAll], by simp [PyData.showableAll]⟩
theorem GdA.cons {k a b : Nat} {d : PyData} {ds : List PyData} (h : Gd k a d) (t : GdA k b ds) : GdA k (a + 1 + b) (d :: ds) := by
  refine ⟨?_, ?_, ?_, ?_, ?_⟩
  · simp only [PyData.canLayAll0, h.lay, t.lay, Bool.and_self]
  · simp only [PyData.depthAll]; exact Nat.max_le.mpr ⟨h.dep, t.dep⟩
  · simp only [PyData.weightAll]; have := h.wt; have := t.wt; omega
  · simp only [PyData.intsShortAll, h.sh, t.sh, Bool.and_self]
  · simp only [PyData.showableAll, h.shw, t.shw, Bool.and_self]
theorem Gd.list {k n : Nat} {ds : List PyData} (h : GdA k n ds) : Gd (k + 1) n (.list ds) := by
  refine ⟨?_, ?_, ?_, ?_, ?_⟩
  · simp only [PyData.canLay0, h.lay]
  · simp only [PyData.depth]; have := h.dep; omega
  · simp only [PyData.weight]; exact h.wt
  · simp only [PyData.intsShort, h.sh]
  · simp only [PyData.showable, h.shw]
theorem Gd.tuple {k n : Nat} {ds : List PyData} (h : GdA k n ds) : Gd (k + 1) n (.tuple ds) := by
  refine ⟨?_, ?_, ?_, ?_, ?_⟩
  · simp only [PyData.canLay0, h.lay]
  · simp only [PyData.depth]; have := h.dep; omega
  · simp only [PyData.weight]; exact h.wt
  · simp only [PyData.intsShort, h.sh]
  · simp only [PyData.showable, h.shw]
theorem Gd.mono {k n k' n' : Nat} {d : PyData} (h : Gd k n d) (hk : k ≤ k') (hn : n ≤ n') : Gd k' n' d := ⟨h.lay, Nat.le_trans h.dep hk, Nat.le_trans h.wt hn, h.sh, h.shw⟩
theorem GdA.mono {k n k' n' : Nat} {d : List PyData} (h : GdA k n d) (hk : k ≤ k') (hn : n ≤ n') : GdA k' n' d := ⟨h.lay, Nat.le_trans h.dep hk, Nat.le_trans h.wt hn, h.sh, h.shw⟩
theorem GdA.all {k n : Nat} : ∀ {ds : List PyData}, (∀ d ∈ ds, Gd k n d) → GdA k (ds.length * (n + 1)) ds
  | [], _ => GdA.nil.mono (Nat.le_refl _) (Nat.zero_le _)
  | d :: r, h => by
    have t := GdA.cons (h d List.mem_cons_self) (GdA.all fun c hc => h c (List.mem_cons_of_mem _ hc))
    refine t.mono (Nat.le_refl _) ?_
    rw [List.length_cons, Nat.succ_mul]
    omega
theorem Gd.str {z : Str} (h : Nm z) : Gd 1 8 (.str z) := by
  obtain ⟨_, h2, h3⟩ := h
  refine ⟨?_, by simp [PyData.depth], by simp only [PyData.weight]; exact h2, by simp [PyData.intsShort], by simp [PyData.showable]⟩
  simp only [PyData.canLay0, PyData.strOk]
  rw [Array.all_eq_true']
  intro c hc
  have := (h3 c (by simpa using hc)).2
  simp; omega
theorem ints_small : ∀ k : _root_.Fin 151, ((PyData.int ((k : Nat) - 51 : Int)).canLay0 && decide ((PyData.int ((k : Nat) - 51 : Int)).depth ≤ 1) && decide ((PyData.int ((k : Nat) - 51 : Int)).weight ≤ 7) && (PyData.int ((k : Nat) - 51 : Int)).intsShort 13 && (PyData.int ((k : Nat) - 51 : Int)).showable) = true := by decide +kernel
theorem Gd.int {i : Int} (h0 : -51 ≤ i) (h1 : i ≤ 99) : Gd 1 7 (.int i) := by
  have z := ints_small ⟨(i + 51).toNat, by omega⟩
  have e : (((i + 51).toNat : Nat) : Int) - 51 = i := by omega
  simp only [e, Bool.and_eq_true, decide_eq_true_eq] at z
  obtain ⟨⟨⟨⟨z1, z2⟩, z3⟩, z4⟩, z5⟩ := z
  exact ⟨z1, z2, z3, z4, z5⟩
structure DSmall (d : Door) : Prop where
  nm : Nm d.name
  rm : Nm d.room
  mv : -1 ≤ d.move ∧ d.move ≤ 1
  gl : Nm d.goal
  pr : 1 ≤ d.price ∧ d.price ≤ 99
theorem Gd.door {d : Door} (h : DSmall d) : Gd 2 43 (doorD d) := by
  have h1 := h.mv
  have h2 := h.pr
  exact Gd.tuple (GdA.cons (Gd.str h.nm) (GdA.cons (Gd.str h.rm) (GdA.cons (Gd.int (by omega) (by omega)) (GdA.cons (Gd.str h.gl) (GdA.cons (Gd.int (by omega) h2.2) GdA.nil)))))
theorem Gd.rooms {rs : List Str} (h : ∀ z ∈ rs, Nm z) (l : rs.length ≤ 18) : Gd 2 162 (.list (rs.map PyData.str)) := by
  have z := GdA.all (k := 1) (n := 8) (ds := rs.map PyData.str) fun d hd => by
    obtain ⟨z, hz, rfl⟩ := List.mem_map.mp hd
    exact Gd.str (h z hz)
  rw [List.length_map] at z
  exact Gd.list (z.mono (Nat.le_refl _) (by omega))
theorem Gd.doors {ds : List Door} (h : ∀ d ∈ ds, DSmall d) (l : ds.length ≤ 18) : Gd 3 792 (.list (ds.map doorD)) := by
  have z := GdA.all (k := 2) (n := 43) (ds := ds.map doorD) fun d hd => by
    obtain ⟨z, hz, rfl⟩ := List.mem_map.mp hd
    exact Gd.door (h z hz)
  rw [List.length_map] at z
  exact Gd.list (z.mono (Nat.le_refl _) (by omega))
theorem Gd.two {rs : List Str} {ds : List Door} (h : ∀ z ∈ rs, Nm z) (l : rs.length ≤ 18) (h2 : ∀ d ∈ ds, DSmall d) (l2 : ds.length ≤ 18) : GdA 3 1000 [.list (rs.map PyData.str), .list (ds.map doorD)] :=
  (GdA.cons ((Gd.rooms h l).mono (by decide) (Nat.le_refl _)) (GdA.cons (Gd.doors h2 l2) GdA.nil)).mono (Nat.le_refl _) (by decide)
theorem Gd.sd {d : PyData} (h : Gd 4 1000 d) : Sd d := by
  refine ⟨?_, h.sh, h.shw⟩
  simp only [PyData.layable0, Bool.and_eq_true, decide_eq_true_eq]
  have h1 := h.dep
  have h2 := h.wt
  exact ⟨⟨h.lay, by omega⟩, by omega⟩
theorem SOk.small {S : SData} (ok : SOk S) : ∀ d ∈ S.doors, DSmall d := fun d hd => by
  have h := ok.dd d hd
  exact ⟨h.nm, ok.rn _ h.rm, h.mv, h.gl, h.pr⟩
theorem SortAt.fresh {av : Addr → Prop} {H : Hp} {v : V} {S : SData} {l : Addr} (h : SortAt av H v S) (e : H l = none) : SortAt (fun q => q = l) H v S := by
  obtain ⟨a, ra, da, ts, rfl, _, h1, h2, h3, h4⟩ := h
  exact ⟨a, ra, da, ts, rfl, ⟨ne_of_none h1 e, ne_of_none h2 e, ne_of_none h3 e⟩, h1, h2, h3, h4⟩
theorem s_ifQ {b : Bool} {ta tb : TE} {σ : L2.St} {H1 : Hp} {Q : VK} (P : V → Hp → Prop) (h : ∀ Q' : VK, (∀ x H', P x H' → Q' x H') → if b = true then ta σ H1 Q' else tb σ H1 Q') (q : ∀ x H', P x H' → Q x H') : if b = true then ta σ H1 Q else tb σ H1 Q := h Q q
theorem Each.mem {α β : Type} {R : α → β → Prop} : ∀ {as : List α} {bs : List β} {a : α}, PySem.W.EachIs R as bs → a ∈ as → ∃ b, R a b
  | _, _, _, .nil, h => by cases h
  | _, _, _, .cons r t, h => by
    rcases List.mem_cons.mp h with rfl | h
    · exact ⟨_, r⟩
    · exact Each.mem t h
theorem Each.app {α β : Type} {R : α → β → Prop} : ∀ {as as' : List α} {bs bs' : List β}, PySem.W.EachIs R as bs → PySem.W.EachIs R as' bs' → PySem.W.EachIs R (as ++ as') (bs ++ bs')
  | _, _, _, _, .nil, h => h
  | _, _, _, _, .cons r t, h => .cons r (Each.app t h)
/-- all sorts of a street, in its order -/
def TData.every (D : TData) : List SData := D.left :: (D.odd ++ [D.right])
theorem TData.every_len (D : TData) : D.every.length = D.odd.length + 2 := by simp [TData.every]
theorem TData.every_mid (D : TData) : (D.every.drop 1).dropLast = D.odd := by simp [TData.every]
theorem TData.every_ok {D : TData} (ok : TOk D) : ∀ S ∈ D.every, SOk S := fun S hS => by
  simp only [TData.every, List.mem_cons, List.mem_append, List.not_mem_nil, or_false] at hS
  rcases hS with rfl | hS | rfl
  · exact ok.l
  · exact ok.o S hS
  · exact ok.r
theorem strs_dp {K : PySem.W.Frag} {H : Hp} : ∀ rs : List Str, DpAll K H (rs.map V.str) (rs.map PyData.str)
  | [] => .nil
  | z :: r => .cons (.str z) (strs_dp r)
end LH
end
section
set_option maxRecDepth 100000
set_option maxHeartbeats 4000000
namespace HN
open PySem PySem.Spec PyProof.Rows PySem.SeqAt
section
variable {M : Model} {prog : Program} {w : World} {A : Around} {E : Value → Shared → Prop} {s : Shared} {K : PySem.W.Frag} {x C f : Addr} {ox : Obj} {od : Option Obj} {b tb : Value}
/-- object's own != asks the text's own == -/
theorem entry_neOwn {Q : Fin → Shared → Prop} (hu : A.units < cLine) (X : K.In s.heap) (I : PySem.W.InstAt s.heap x ox C od) (hs : PySem.W.findIn K (.ref C) "__eq__" = some (some (.ref f))) (hf : PySem.W.isFn K (.ref f) = true)
    (h : wpAny M A (call (.ref f) [.ref x, b]) (fun v s' => ∃ r, v = .bool r ∧ Q (.done (.ret (.bool (!r)))) s') E s) : wpAny M A (Builtin.«object.__ne__» ⟨[.ref x, b], []⟩) Q E s := by
  unfold Builtin.«object.__ne__»
  repeat (first
    | with_reducible refine wpAny_cRoomFor hu ?_
    | (refine wpAny_bind (m := callSpecialIfBound? (.ref x) (Str.ofString "__eq__") [b])
        (PySem.W.ifBound_K X I hs hf (wpAny_mono h (fun r s' hr => by
          obtain ⟨b, rfl, hq⟩ := hr
          repeat (first | exact hq | exact wpAny_pure hq | exact wpAny_truthy_bool hq | (refine wpAny_bind (m := truthy (.bool _)) (wpAny_truthy_bool ?_)) | wp_step)) fun _ _ e => e)))
    | wp_step)
theorem ifBound_objNe {args : List Value} {Q : Option Value → Shared → Prop} (X : K.In s.heap) (I : PySem.W.InstAt s.heap x ox C od) (hs : PySem.W.findIn K (.ref C) "__ne__" = some (some (.builtin "object.__ne__")))
    (h : wpAny M A (call (.builtin "object.__ne__") (.ref x :: args)) (fun v => Q (some v)) E s) : wpAny M A (callSpecialIfBound? (.ref x) "__ne__" args) Q E s := by
  simp only [callSpecialIfBound?, bindSpecialIfBound?]
  refine wpAny_holding (wpAny_bind (wpAny_bind (wpAny_bind (I.type.here ((PySem.W.looks_findIn X hs).here ?_)))))
  refine wpAny_bind (wpAny_askSetting (wpAny_ite ?_))
  have fin : wpAny M A (call (.builtin "object.__ne__") ([.ref x] ++ args) >>= fun v => pure (some v)) Q E s := wpAny_bind (wpAny_mono h (fun v s' h' => wpAny_pure h') fun _ _ h' => h')
  split
  · exact wpAny_bind (wpAny_of_eq (F.cmp_object.ne.bind _) (wpAny_pure (by exact fin)))
  · exact wpAny_tryCatch (wpAny_bind (wpAny_of_eq (F.cmp_object.ne.bind _) (wpAny_pure (by exact fin))))
theorem ne_own {Q : Value → Shared → Prop} (hu : A.units + 1 < cLine) (X : K.In s.heap) (I : PySem.W.InstAt s.heap x ox C od) (hb : PySem.W.Looks (model prog w) s.heap (typeOf b) tb) (hn : PySem.W.notFirst K C tb = true)
    (hm : PySem.W.mroIn K C (.type "object") = some true) (hne : PySem.W.findIn K (.ref C) "__ne__" = some (some (.builtin "object.__ne__")))
    (hs : PySem.W.findIn K (.ref C) "__eq__" = some (some (.ref f))) (hf : PySem.W.isFn K (.ref f) = true)
    (h : wpAny (model prog w) A.in1 (call (.ref f) [.ref x, b]) (fun v s' => ∃ r, v = .bool r ∧ Q (.bool (!r)) s') E s) : wpAny (model prog w) A (richCompare .NotEq (.ref x) b) Q E s := by
  have one : wpAny (model prog w) A (tryCompare (.ref x) "__ne__" b) (fun r s' => ∃ v, r = some v ∧ Q v s') E s := by
    unfold tryCompare
    refine wpAny_bind (ifBound_objNe X I hne (wpAny_call (codeAny_call_builtin F.cmp_object.ne.plain F.cmpEntry_ne (PySem.W.check_slot F.cmpKind_ne F.cmpSplit_ne (I.type.andThen (PySem.W.looks_mroIn X hm)) (F.cmpArgs_ne _ _)
      (entry_neOwn (A := A.in1) hu X I hs hf (wpAny_mono h (fun v s' hv => ?_) fun _ _ e => e))))))
    obtain ⟨r, rfl, hq⟩ := hv
    first | exact ⟨r, rfl, wpAny_pure ⟨_, rfl, hq⟩⟩ | exact ⟨r, rfl, ⟨_, rfl, hq⟩⟩
  simp only [richCompare, cmpInfo_NotEq, oneThing_ref]
  refine wpAny_holding (wpAny_bind (wpAny_cRoomFor (Nat.lt_of_succ_lt hu) ?_))
  refine wpAny_bind (I.type.here (wpAny_bind (hb.here ?_)))
  split
  · rename_i q
    have e : PySem.W.subIn K tb (.ref C) = some false := by
      rcases Bool.or_eq_true_iff.mp hn with e | e
      · rw [beq_iff_eq.mp e] at q; simp at q
      · exact beq_iff_eq.mp e
    refine wpAny_bind ((PySem.W.looks_subIn X e).here ?_)
    simp only [Bool.false_eq_true, if_false]
    refine wpAny_bind (m := tryCompare (.ref x) _ b) (wpAny_mono one (fun r s' z => ?_) fun _ _ e => e)
    obtain ⟨v, rfl, hq⟩ := z
    exact wpAny_pure hq
  · refine wpAny_bind (wpAny_pure ?_)
    simp only [Bool.false_eq_true, if_false]
    refine wpAny_bind (m := tryCompare (.ref x) _ b) (wpAny_mono one (fun r s' z => ?_) fun _ _ e => e)
    obtain ⟨v, rfl, hq⟩ := z
    exact wpAny_pure hq
end
end HN
namespace LH
open PySem L2 PyProof.Rows
/-- two objects of the class at C: what the own == promises of them -/
def rNeOwn (C : Addr) (sp : Sp) : R2 := fun x y H Q => ∃ a b dx dy fs gs, x = .ref a ∧ y = .ref b ∧ H a = some (.ins C dx fs) ∧ H b = some (.ins C dy gs) ∧ sp [x, y] H (fun v H' => ∃ r, v = .bl r ∧ Q (.bl (!r)) H') E0
def rEqOwn (C : Addr) (sp : Sp) : R2 := fun x y H Q => ∃ a b dx dy fs gs, x = .ref a ∧ y = .ref b ∧ H a = some (.ins C dx fs) ∧ H b = some (.ins C dy gs) ∧ sp [x, y] H (fun v H' => ∃ r, v = .bl r ∧ Q (.bl r) H') E0
structure OwnEq (K : PySem.W.Frag) (C f : Addr) : Prop where
  eq : PySem.W.findIn K (.ref C) "__eq__" = some (some (.ref f))
  fn : PySem.W.isFn K (.ref f) = true
  ne : PySem.W.findIn K (.ref C) "__ne__" = some (some (.builtin "object.__ne__"))
  mro : PySem.W.mroIn K C (.type "object") = some true
section
variable {X : Cx} {C f : Addr} {fd : FuncData} {ps : List Str} {n : Nat} {sp : Sp}
/-- the own == runs below -/
theorem own_call (F : FnOk X.prog X.w X.K X.mg X.base CX0 n f fd ps sp) (hb : Binds X.K fd ps []) {A : Around} (sb : Sub X n A) {pins : List (Addr × Obj)} {σ : L2.St} {H : Hp} {s : Shared} (I : Inv X pins σ H s) {us : List Value} {vs : List V} (r : Vals vs us) {Q : VK}
    (h : sp vs H Q E0) : wpAny (model X.prog X.w) A (call (.ref f) us) (EP X pins σ Q) X.xe s := by
  have e0 : Env0 X.prog X.w X.K X.mg X.base A X.stack s H := by
    have e := I.env0
    exact ⟨by rw [sb.fr]; exact e.frames, e.mod, e.bs, e.bsz, e.funs, e.frf, e.hok, e.bare⟩
  have hl : us.length = ps.length := by rw [← r.length]; exact F.len _ _ _ _ h
  refine wpAny_call (codeAny_mono (F.run A X.stack s H ⟨us, []⟩ us vs Q E0 sb.room e0 (by
    have := hb s us I.kIn (by simpa using hl)
    simpa using this) r h) fun r s' hq => ?_)
  cases r with
  | error e => exact hq.elim
  | ok fl =>
    cases fl with
    | ret w => exact I.after hq
    | next => exact False.elim hq
    | brk => exact False.elim hq
    | cont => exact False.elim hq
theorem op_neOwn (F : FnOk X.prog X.w X.K X.mg X.base CX0 n f fd ps sp) (o : OwnEq X.K C f) (hb : Binds X.K fd ps []) (hr : Room (n + 1) X.A) : OpR X (compareOp .NotEq) (rNeOwn C sp) := by
  intro pins s σ H x y v u Q I rx ry h
  obtain ⟨a, b, dx, dy, fs, gs, rfl, rfl, ha, hb', q⟩ := h
  cases rx
  cases ry
  obtain ⟨mA, J, _⟩ := ins_get I.hok ha
  obtain ⟨mB, J', _⟩ := ins_get I.hok hb'
  obtain ⟨od, J, _⟩ := J.look
  obtain ⟨od', J', _⟩ := J'.look
  have sb : Sub X (n + 1) X.A := ⟨hr, rfl⟩
  show wpAny _ _ (richCompare .NotEq _ _) _ _ _
  refine HN.ne_own (by have := hr.units; omega) I.kIn J J'.type (by simp [PySem.W.notFirst]) o.mro o.ne o.eq o.fn ?_
  refine wpAny_mono (own_call F hb sb.in1 I (show Vals [V.ref a, V.ref b] [Value.ref a, Value.ref b] from .cons rfl (.cons rfl .nil)) q) (fun v s' hv => ?_) fun _ _ e => e
  obtain ⟨z, H', I', rz, r, ez, q'⟩ := hv
  subst ez
  cases rz
  exact ⟨r, rfl, .bl _, H', I', rfl, q'⟩
theorem op_eqOwn (F : FnOk X.prog X.w X.K X.mg X.base CX0 n f fd ps sp) (o : OwnEq X.K C f) (hb : Binds X.K fd ps []) (hr : Room n X.A) : OpR X (compareOp .Eq) (rEqOwn C sp) := by
  intro pins s σ H x y v u Q I rx ry h
  obtain ⟨a, b, dx, dy, fs, gs, rfl, rfl, ha, hb', q⟩ := h
  cases rx
  cases ry
  obtain ⟨mA, J, _⟩ := ins_get I.hok ha
  obtain ⟨mB, J', _⟩ := ins_get I.hok hb'
  obtain ⟨od, J, _⟩ := J.look
  obtain ⟨od', J', _⟩ := J'.look
  obtain ⟨m, hF⟩ := I.fr
  have sb : Sub X n X.A := ⟨hr, rfl⟩
  show wpAny _ _ (richCompare .Eq _ _) _ _ _
  refine PySem.W.cmp_K (op := .Eq) (tb := .ref C) hr.units0 hF I.ok.mod.kin J J'.type (by simp [PySem.W.notFirst]) o.eq o.fn ?_
  refine wpAny_mono (own_call F hb sb I (show Vals [V.ref a, V.ref b] [Value.ref a, Value.ref b] from .cons rfl (.cons rfl .nil)) q) (fun v s' hv => ?_) fun _ _ e => e
  obtain ⟨z, H', I', rz, r, ez, q'⟩ := hv
  subst ez
  cases rz
  exact ⟨.bl _, H', I', rfl, q'⟩
end
/-- what isinstance asks of an own class -/
structure IsC (K : PySem.W.Frag) (C : Addr) : Prop where
  cls : PySem.W.findIn K (.ref C) "__class__" = some (some (.builtin "object.__class__"))
  get : PySem.W.specialIn K (.builtin "object.__class__") "__get__" = some (some (.builtin "getset_descriptor.__get__"))
  tk : PySem.W.takesIn K (.builtin "object.__class__") = some true
  mro : PySem.W.mroIn K C (.type "object") = some true
theorem IsC.ty {K : PySem.W.Frag} {H : Hp} {a C dx : Addr} {fs : List (Str × V)} (i : IsC K C) (h : H a = some (.ins C dx fs)) (cl : Cls K C) : TyX K H (.ref a) (.ref C) := .base (.ins h cl i.cls i.get i.tk i.mro)
theorem kit_self {K : PySem.W.Frag} {C : Addr} : PySem.W.kitOne K (.ref C) (.ref C) = some true := by
  unfold PySem.W.kitOne
  rw [if_pos (by simp)]
theorem Gd.shaped {d : PyData} (h : Gd 4 1000 d) : SeqAt.shaped d = true := by
  simp only [SeqAt.shaped, Bool.and_eq_true, decide_eq_true_eq]
  have := h.dep
  exact ⟨h.lay, by omega⟩
/-- two objects of one sort -/
def SameSort (C : Addr) (a b : Addr) (H : Hp) : Prop := ∃ S, SOk S ∧ SortO C (fun _ => False) H (.ref a) S ∧ SortO C (fun _ => False) H (.ref b) S
theorem SameSort.ext {C a b : Addr} {H H' : Hp} (e : Ext H H') (h : SameSort C a b H) : SameSort C a b H' := by
  obtain ⟨S, ok, h1, h2⟩ := h
  exact ⟨S, ok, h1.same e, h2.same e⟩
def SameStreet (CS CT : Addr) (a b : Addr) (H : Hp) : Prop := ∃ D, TOk D ∧ StreetO CS CT (fun _ => False) H (.ref a) D ∧ StreetO CS CT (fun _ => False) H (.ref b) D
theorem op_eqLO {X : Cx} {C f : Addr} {fd : FuncData} {ps : List Str} {n : Nat} (F : FnOk X.prog X.w X.K X.mg X.base CX0 n f fd ps (spEq (SameSort C))) (o : OwnEq X.K C f) (hb : Binds X.K fd ps []) (hr : Room (n + 1) X.A) : OpR X (compareOp .Eq) (rEqG (DList (DIns C (SameSort C)))) :=
  op_eqG (rcG_list (mon_ins fun _ _ _ _ e h => SameSort.ext e h) (eqG_ins (E := E0) F o.eq o.fn hb pass0)) hr
end LH
end
section
set_option maxRecDepth 100000
set_option maxHeartbeats 4000000
namespace LH
open PySem L2
def top (i : Nat) : Stmt := PySem.Challenge.pw_likehouses_k04_whole_sorts_of_all_houses.main.body.getD i (.Pass ⟨0, 0, 0, 0⟩)
abbrev s_plain_door : Stmt := top 1
abbrev n_plain_door : List Str := ["door", "name", "room", "move", "goal", "price"]
theorem sc_plain_door : FnScope n_plain_door ["door"] (defScope s_plain_door) := ⟨rfl, rfl, rfl, by decide +kernel, rfl, by decide +kernel, by decide +kernel⟩
abbrev s_Sort_init : Stmt := inClass (top 2) 0
abbrev n_Sort_init : List Str := ["self", "rooms", "doors", "room", "door"]
theorem sc_Sort_init : FnScope n_Sort_init ["self", "rooms", "doors"] (defScope s_Sort_init) := ⟨rfl, rfl, rfl, by decide +kernel, rfl, by decide +kernel, by decide +kernel⟩
abbrev s_Sort_eq : Stmt := inClass (top 2) 1
abbrev n_Sort_eq : List Str := ["self", "other"]
theorem sc_Sort_eq : FnScope n_Sort_eq ["self", "other"] (defScope s_Sort_eq) := ⟨rfl, rfl, rfl, by decide +kernel, rfl, by decide +kernel, by decide +kernel⟩
abbrev s_Sort_rooms : Stmt := inClass (top 2) 2
abbrev n_Sort_rooms : List Str := ["self"]
theorem sc_Sort_rooms : FnScope n_Sort_rooms ["self"] (defScope s_Sort_rooms) := ⟨rfl, rfl, rfl, by decide +kernel, rfl, by decide +kernel, by decide +kernel⟩
abbrev s_Sort_doors : Stmt := inClass (top 2) 3
abbrev n_Sort_doors : List Str := ["self"]
theorem sc_Sort_doors : FnScope n_Sort_doors ["self"] (defScope s_Sort_doors) := ⟨rfl, rfl, rfl, by decide +kernel, rfl, by decide +kernel, by decide +kernel⟩
abbrev s_same_sort : Stmt := top 3
abbrev n_same_sort : List Str := ["sort"]
theorem sc_same_sort : FnScope n_same_sort ["sort"] (defScope s_same_sort) := ⟨rfl, rfl, rfl, by decide +kernel, rfl, by decide +kernel, by decide +kernel⟩
abbrev s_Street_init : Stmt := inClass (top 4) 0
abbrev n_Street_init : List Str := ["self", "left", "first", "odd", "right", "sort"]
theorem sc_Street_init : FnScope n_Street_init ["self", "left", "first", "odd", "right"] (defScope s_Street_init) := ⟨rfl, rfl, rfl, by decide +kernel, rfl, by decide +kernel, by decide +kernel⟩
abbrev s_Street_eq : Stmt := inClass (top 4) 1
abbrev n_Street_eq : List Str := ["self", "other"]
theorem sc_Street_eq : FnScope n_Street_eq ["self", "other"] (defScope s_Street_eq) := ⟨rfl, rfl, rfl, by decide +kernel, rfl, by decide +kernel, by decide +kernel⟩
abbrev s_Street_len : Stmt := inClass (top 4) 2
abbrev n_Street_len : List Str := ["self"]
theorem sc_Street_len : FnScope n_Street_len ["self"] (defScope s_Street_len) := ⟨rfl, rfl, rfl, by decide +kernel, rfl, by decide +kernel, by decide +kernel⟩
abbrev s_Street_left : Stmt := inClass (top 4) 3
abbrev n_Street_left : List Str := ["self"]
theorem sc_Street_left : FnScope n_Street_left ["self"] (defScope s_Street_left) := ⟨rfl, rfl, rfl, by decide +kernel, rfl, by decide +kernel, by decide +kernel⟩
abbrev s_Street_right : Stmt := inClass (top 4) 4
abbrev n_Street_right : List Str := ["self"]
theorem sc_Street_right : FnScope n_Street_right ["self"] (defScope s_Street_right) := ⟨rfl, rfl, rfl, by decide +kernel, rfl, by decide +kernel, by decide +kernel⟩
abbrev s_Street_odd : Stmt := inClass (top 4) 5
abbrev n_Street_odd : List Str := ["self", "sort"]
theorem sc_Street_odd : FnScope n_Street_odd ["self"] (defScope s_Street_odd) := ⟨rfl, rfl, rfl, by decide +kernel, rfl, by decide +kernel, by decide +kernel⟩
abbrev s_Street_first : Stmt := inClass (top 4) 6
abbrev n_Street_first : List Str := ["self"]
theorem sc_Street_first : FnScope n_Street_first ["self"] (defScope s_Street_first) := ⟨rfl, rfl, rfl, by decide +kernel, rfl, by decide +kernel, by decide +kernel⟩
abbrev s_Street_sort_at : Stmt := inClass (top 4) 7
abbrev n_Street_sort_at : List Str := ["self", "house", "place"]
theorem sc_Street_sort_at : FnScope n_Street_sort_at ["self", "house"] (defScope s_Street_sort_at) := ⟨rfl, rfl, rfl, by decide +kernel, rfl, by decide +kernel, by decide +kernel⟩
abbrev s_places_of : Stmt := top 5
abbrev n_places_of : List Str := ["street", "first", "k"]
theorem sc_places_of : FnScope n_places_of ["street"] (defScope s_places_of) := ⟨rfl, rfl, rfl, by decide +kernel, rfl, by decide +kernel, by decide +kernel⟩
abbrev s_law_pen : Stmt := top 7
abbrev n_law_pen : List Str := ["script"]
theorem sc_law_pen : FnScope n_law_pen ["script"] (defScope s_law_pen) := ⟨rfl, rfl, rfl, by decide +kernel, rfl, by decide +kernel, by decide +kernel⟩
abbrev s_law_draw : Stmt := top 8
abbrev n_law_draw : List Str := ["pen", "many", "digit", "turn", "cell", "primes", "prime", "drawn"]
theorem sc_law_draw : FnScope n_law_draw ["pen", "many"] (defScope s_law_draw) := ⟨rfl, rfl, rfl, by decide +kernel, rfl, by decide +kernel, by decide +kernel⟩
abbrev s_law_pick : Stmt := top 9
abbrev n_law_pick : List Str := ["pen", "some"]
theorem sc_law_pick : FnScope n_law_pick ["pen", "some"] (defScope s_law_pick) := ⟨rfl, rfl, rfl, by decide +kernel, rfl, by decide +kernel, by decide +kernel⟩
abbrev s_law_shuffled : Stmt := top 10
abbrev n_law_shuffled : List Str := ["pen", "some", "left", "found"]
theorem sc_law_shuffled : FnScope n_law_shuffled ["pen", "some"] (defScope s_law_shuffled) := ⟨rfl, rfl, rfl, by decide +kernel, rfl, by decide +kernel, by decide +kernel⟩
abbrev s_law_names : Stmt := top 11
abbrev n_law_names : List Str := ["pen", "many", "words", "turn", "letters", "base", "k", "at", "first", "cut", "step", "found", "tail"]
theorem sc_law_names : FnScope n_law_names ["pen", "many"] (defScope s_law_names) := ⟨rfl, rfl, rfl, by decide +kernel, rfl, by decide +kernel, by decide +kernel⟩
abbrev s_law_sort : Stmt := top 12
abbrev n_law_sort : List Str := ["pen", "rooms", "goals", "doors", "names", "found", "name", "room", "move", "goal"]
theorem sc_law_sort : FnScope n_law_sort ["pen", "rooms", "goals", "doors"] (defScope s_law_sort) := ⟨rfl, rfl, rfl, by decide +kernel, rfl, by decide +kernel, by decide +kernel⟩
abbrev s_law_price : Stmt := top 13
abbrev n_law_price : List Str := ["pen"]
theorem sc_law_price : FnScope n_law_price ["pen"] (defScope s_law_price) := ⟨rfl, rfl, rfl, by decide +kernel, rfl, by decide +kernel, by decide +kernel⟩
abbrev s_law_street : Stmt := top 14
abbrev n_law_street : List Str := ["pen", "rooms", "doors", "odd", "pool", "groups", "k", "group", "sorts", "first"]
theorem sc_law_street : FnScope n_law_street ["pen", "rooms", "doors", "odd"] (defScope s_law_street) := ⟨rfl, rfl, rfl, by decide +kernel, rfl, by decide +kernel, by decide +kernel⟩
abbrev s_law_made : Stmt := top 15
abbrev n_law_made : List Str := ["street", "sorts", "one"]
theorem sc_law_made : FnScope n_law_made ["street"] (defScope s_law_made) := ⟨rfl, rfl, rfl, by decide +kernel, rfl, by decide +kernel, by decide +kernel⟩
abbrev s_law_at : Stmt := top 16
abbrev n_law_at : List Str := ["street", "house", "at"]
theorem sc_law_at : FnScope n_law_at ["street", "house"] (defScope s_law_at) := ⟨rfl, rfl, rfl, by decide +kernel, rfl, by decide +kernel, by decide +kernel⟩
abbrev s_law : Stmt := top 17
abbrev n_law : List Str := ["script", "pen", "bout", "street", "made", "first", "odd", "some", "k", "house", "due", "turn", "told"]
theorem sc_law : FnScope n_law ["script"] (defScope s_law) := ⟨rfl, rfl, rfl, by decide +kernel, rfl, by decide +kernel, by decide +kernel⟩
/-- what the top has written -/
structure Tx (K : PySem.W.Frag) (mg : Str → Option Value) where
  c_Sort : Addr
  cl_Sort : Cls K c_Sort
  mg_Sort : mg "Sort" = some (.ref c_Sort)
  na_Sort_rooms : NoAttr K c_Sort "_rooms"
  na_Sort_doors : NoAttr K c_Sort "_doors"
  ic_Sort : IsC K c_Sort
  c_Street : Addr
  cl_Street : Cls K c_Street
  mg_Street : mg "Street" = some (.ref c_Street)
  na_Street_left : NoAttr K c_Street "_left"
  na_Street_first : NoAttr K c_Street "_first"
  na_Street_odd : NoAttr K c_Street "_odd"
  na_Street_right : NoAttr K c_Street "_right"
  ic_Street : IsC K c_Street
  a_plain_door : Addr
  fd_plain_door : FuncData
  F_plain_door : Fun K "_plain_door" "_plain_door" s_plain_door a_plain_door fd_plain_door
  b_plain_door : Binds K fd_plain_door ["door"] []
  k_plain_door : PySem.W.keepIn K (.ref a_plain_door) = true
  g_plain_door : mg "_plain_door" = some (.ref a_plain_door)
  a_Sort_init : Addr
  fd_Sort_init : FuncData
  F_Sort_init : Fun K "__init__" "Sort.__init__" s_Sort_init a_Sort_init fd_Sort_init
  b_Sort_init : Binds K fd_Sort_init ["self", "rooms", "doors"] []
  k_Sort_init : PySem.W.keepIn K (.ref a_Sort_init) = true
  m_Sort_init : Meth K c_Sort "__init__" a_Sort_init
  M_Sort : Mk K c_Sort a_Sort_init
  a_Sort_eq : Addr
  fd_Sort_eq : FuncData
  F_Sort_eq : Fun K "__eq__" "Sort.__eq__" s_Sort_eq a_Sort_eq fd_Sort_eq
  b_Sort_eq : Binds K fd_Sort_eq ["self", "other"] []
  k_Sort_eq : PySem.W.keepIn K (.ref a_Sort_eq) = true
  m_Sort_eq : Meth K c_Sort "__eq__" a_Sort_eq
  a_Sort_rooms : Addr
  fd_Sort_rooms : FuncData
  F_Sort_rooms : Fun K "rooms" "Sort.rooms" s_Sort_rooms a_Sort_rooms fd_Sort_rooms
  b_Sort_rooms : Binds K fd_Sort_rooms ["self"] []
  k_Sort_rooms : PySem.W.keepIn K (.ref a_Sort_rooms) = true
  m_Sort_rooms : Meth K c_Sort "rooms" a_Sort_rooms
  a_Sort_doors : Addr
  fd_Sort_doors : FuncData
  F_Sort_doors : Fun K "doors" "Sort.doors" s_Sort_doors a_Sort_doors fd_Sort_doors
  b_Sort_doors : Binds K fd_Sort_doors ["self"] []
  k_Sort_doors : PySem.W.keepIn K (.ref a_Sort_doors) = true
  m_Sort_doors : Meth K c_Sort "doors" a_Sort_doors
  a_same_sort : Addr
  fd_same_sort : FuncData
  F_same_sort : Fun K "_same_sort" "_same_sort" s_same_sort a_same_sort fd_same_sort
  b_same_sort : Binds K fd_same_sort ["sort"] []
  k_same_sort : PySem.W.keepIn K (.ref a_same_sort) = true
  g_same_sort : mg "_same_sort" = some (.ref a_same_sort)
  a_Street_init : Addr
  fd_Street_init : FuncData
  F_Street_init : Fun K "__init__" "Street.__init__" s_Street_init a_Street_init fd_Street_init
  b_Street_init : Binds K fd_Street_init ["self", "left", "first", "odd", "right"] []
  k_Street_init : PySem.W.keepIn K (.ref a_Street_init) = true
  m_Street_init : Meth K c_Street "__init__" a_Street_init
  M_Street : Mk K c_Street a_Street_init
  a_Street_eq : Addr
  fd_Street_eq : FuncData
  F_Street_eq : Fun K "__eq__" "Street.__eq__" s_Street_eq a_Street_eq fd_Street_eq
  b_Street_eq : Binds K fd_Street_eq ["self", "other"] []
  k_Street_eq : PySem.W.keepIn K (.ref a_Street_eq) = true
  m_Street_eq : Meth K c_Street "__eq__" a_Street_eq
  a_Street_len : Addr
  fd_Street_len : FuncData
  F_Street_len : Fun K "__len__" "Street.__len__" s_Street_len a_Street_len fd_Street_len
  b_Street_len : Binds K fd_Street_len ["self"] []
  k_Street_len : PySem.W.keepIn K (.ref a_Street_len) = true
  m_Street_len : Meth K c_Street "__len__" a_Street_len
  a_Street_left : Addr
  fd_Street_left : FuncData
  F_Street_left : Fun K "left" "Street.left" s_Street_left a_Street_left fd_Street_left
  b_Street_left : Binds K fd_Street_left ["self"] []
  k_Street_left : PySem.W.keepIn K (.ref a_Street_left) = true
  m_Street_left : Meth K c_Street "left" a_Street_left
  a_Street_right : Addr
  fd_Street_right : FuncData
  F_Street_right : Fun K "right" "Street.right" s_Street_right a_Street_right fd_Street_right
  b_Street_right : Binds K fd_Street_right ["self"] []
  k_Street_right : PySem.W.keepIn K (.ref a_Street_right) = true
  m_Street_right : Meth K c_Street "right" a_Street_right
  a_Street_odd : Addr
  fd_Street_odd : FuncData
  F_Street_odd : Fun K "odd" "Street.odd" s_Street_odd a_Street_odd fd_Street_odd
  b_Street_odd : Binds K fd_Street_odd ["self"] []
  k_Street_odd : PySem.W.keepIn K (.ref a_Street_odd) = true
  m_Street_odd : Meth K c_Street "odd" a_Street_odd
  a_Street_first : Addr
  fd_Street_first : FuncData
  F_Street_first : Fun K "first" "Street.first" s_Street_first a_Street_first fd_Street_first
  b_Street_first : Binds K fd_Street_first ["self"] []
  k_Street_first : PySem.W.keepIn K (.ref a_Street_first) = true
  m_Street_first : Meth K c_Street "first" a_Street_first
  a_Street_sort_at : Addr
  fd_Street_sort_at : FuncData
  F_Street_sort_at : Fun K "sort_at" "Street.sort_at" s_Street_sort_at a_Street_sort_at fd_Street_sort_at
  b_Street_sort_at : Binds K fd_Street_sort_at ["self", "house"] []
  k_Street_sort_at : PySem.W.keepIn K (.ref a_Street_sort_at) = true
  m_Street_sort_at : Meth K c_Street "sort_at" a_Street_sort_at
  a_places_of : Addr
  fd_places_of : FuncData
  F_places_of : Fun K "places_of" "places_of" s_places_of a_places_of fd_places_of
  b_places_of : Binds K fd_places_of ["street"] []
  k_places_of : PySem.W.keepIn K (.ref a_places_of) = true
  g_places_of : mg "places_of" = some (.ref a_places_of)
  a_law_pen : Addr
  fd_law_pen : FuncData
  F_law_pen : Fun K "_law_pen" "_law_pen" s_law_pen a_law_pen fd_law_pen
  b_law_pen : Binds K fd_law_pen ["script"] []
  k_law_pen : PySem.W.keepIn K (.ref a_law_pen) = true
  g_law_pen : mg "_law_pen" = some (.ref a_law_pen)
  a_law_draw : Addr
  fd_law_draw : FuncData
  F_law_draw : Fun K "_law_draw" "_law_draw" s_law_draw a_law_draw fd_law_draw
  b_law_draw : Binds K fd_law_draw ["pen", "many"] []
  k_law_draw : PySem.W.keepIn K (.ref a_law_draw) = true
  g_law_draw : mg "_law_draw" = some (.ref a_law_draw)
  a_law_pick : Addr
  fd_law_pick : FuncData
  F_law_pick : Fun K "_law_pick" "_law_pick" s_law_pick a_law_pick fd_law_pick
  b_law_pick : Binds K fd_law_pick ["pen", "some"] []
  k_law_pick : PySem.W.keepIn K (.ref a_law_pick) = true
  g_law_pick : mg "_law_pick" = some (.ref a_law_pick)
  a_law_shuffled : Addr
  fd_law_shuffled : FuncData
  F_law_shuffled : Fun K "_law_shuffled" "_law_shuffled" s_law_shuffled a_law_shuffled fd_law_shuffled
  b_law_shuffled : Binds K fd_law_shuffled ["pen", "some"] []
  k_law_shuffled : PySem.W.keepIn K (.ref a_law_shuffled) = true
  g_law_shuffled : mg "_law_shuffled" = some (.ref a_law_shuffled)
  a_law_names : Addr
  fd_law_names : FuncData
  F_law_names : Fun K "_law_names" "_law_names" s_law_names a_law_names fd_law_names
  b_law_names : Binds K fd_law_names ["pen", "many"] []
  k_law_names : PySem.W.keepIn K (.ref a_law_names) = true
  g_law_names : mg "_law_names" = some (.ref a_law_names)
  a_law_sort : Addr
  fd_law_sort : FuncData
  F_law_sort : Fun K "_law_sort" "_law_sort" s_law_sort a_law_sort fd_law_sort
  b_law_sort : Binds K fd_law_sort ["pen", "rooms", "goals", "doors"] []
  k_law_sort : PySem.W.keepIn K (.ref a_law_sort) = true
  g_law_sort : mg "_law_sort" = some (.ref a_law_sort)
  a_law_price : Addr
  fd_law_price : FuncData
  F_law_price : Fun K "_law_price" "_law_price" s_law_price a_law_price fd_law_price
  b_law_price : Binds K fd_law_price ["pen"] []
  k_law_price : PySem.W.keepIn K (.ref a_law_price) = true
  g_law_price : mg "_law_price" = some (.ref a_law_price)
  a_law_street : Addr
  fd_law_street : FuncData
  F_law_street : Fun K "_law_street" "_law_street" s_law_street a_law_street fd_law_street
  b_law_street : Binds K fd_law_street ["pen", "rooms", "doors", "odd"] []
  k_law_street : PySem.W.keepIn K (.ref a_law_street) = true
  g_law_street : mg "_law_street" = some (.ref a_law_street)
  a_law_made : Addr
  fd_law_made : FuncData
  F_law_made : Fun K "_law_made" "_law_made" s_law_made a_law_made fd_law_made
  b_law_made : Binds K fd_law_made ["street"] []
  k_law_made : PySem.W.keepIn K (.ref a_law_made) = true
  g_law_made : mg "_law_made" = some (.ref a_law_made)
  a_law_at : Addr
  fd_law_at : FuncData
  F_law_at : Fun K "_law_at" "_law_at" s_law_at a_law_at fd_law_at
  b_law_at : Binds K fd_law_at ["street", "house"] []
  k_law_at : PySem.W.keepIn K (.ref a_law_at) = true
  g_law_at : mg "_law_at" = some (.ref a_law_at)
  a_law : Addr
  fd_law : FuncData
  F_law : Fun K "law" "law" s_law a_law fd_law
  b_law : Binds K fd_law ["script"] []
  k_law : PySem.W.keepIn K (.ref a_law) = true
  g_law : mg "law" = some (.ref a_law)
  oe_Sort : OwnEq K c_Sort a_Sort_eq
  oe_Street : OwnEq K c_Street a_Street_eq
  z_str : mg "str" = none
  z_int : mg "int" = none
  z_sorted : mg "sorted" = none
  z_isinstance : mg "isinstance" = none
  z_list : mg "list" = none
  z_len : mg "len" = none
  z_range : mg "range" = none
  z_abs : mg "abs" = none
  z_min : mg "min" = none
  z_repr : mg "repr" = none
end LH
end
section
set_option maxRecDepth 100000
set_option maxHeartbeats 4000000
namespace LH
open PySem L2
local macro_rules | `(tactic| walk_at "ne") => `(tactic| first
  | assumption
  | (refine' Ne.symm ?hz; (case hz => assumption)))
local macro_rules | `(tactic| walk_at "hp") => `(tactic| first
  | assumption
  | exact upd_same
  | (refine' Same.look (by assumption) ?hz; (case hz => walk_at "hp"))
  | (refine' Sb.look (by assumption) ?hn ?hz; (case hn => walk_at "ne"); (case hz => walk_at "hp"))
  | (refine' upd_new ?hz (by assumption); (case hz => walk_at "hp"))
  | (refine' upd_keep ?hz (by assumption); (case hz => walk_at "hp"))
  | (refine' upd_keep' ?hz (by assumption); (case hz => walk_at "hp")))
local macro_rules | `(tactic| walk_at "sb") => `(tactic| first
  | assumption
  | exact Sb.refl _ _
  | exact Same.refl _
  | (refine' Sb.of_same ?hz; (case hz => assumption))
  | (refine' Sb.trans ?hz (Sb.of_same (by assumption)); (case hz => walk_at "sb"))
  | (refine' Sb.trans ?hz (by assumption); (case hz => walk_at "sb"))
  | (refine' Sb.mut ?hz (by assumption) ?hn; (case hz => walk_at "sb"); (case hn => walk_at "fr"))
  | (refine' Same.trans ?hz (by assumption); (case hz => walk_at "sb"))
  | (refine' Same.mut ?hz (by assumption) ?hn; (case hz => walk_at "sb"); (case hn => walk_at "fr")))
local macro_rules | `(tactic| walk_at "fr") => `(tactic| first
  | assumption
  | (refine' Same.free' (by assumption) ?hz; (case hz => walk_at "fr"))
  | (refine' Sb.free (by assumption) ?hn ?hz; (case hz => walk_at "fr"); (case hn => walk_at "ne")))
local macro_rules | `(tactic| walk_at "pn") => `(tactic| first
  | assumption
  | (refine' Pen.same ?hz (by assumption); (case hz => walk_at "pn"))
  | (refine' Pen.sb ?hz (by assumption) ?hn ?hm; (case hz => walk_at "pn"); (case hn => walk_at "ne"); (case hm => walk_at "ne")))
local macro_rules | `(tactic| walk_at "sq") => `(tactic| first
  | assumption
  | (refine' SqL.of ?hz; (case hz => walk_at "hp"))
  | (refine' SqT.of ?hz; (case hz => walk_at "hp"))
  | (refine' Or.inl (SqL.of ?hz); (case hz => walk_at "hp"))
  | (refine' Or.inr (SqT.of ?hz); (case hz => walk_at "hp"))
  | (refine' Or.inl ?hz; (case hz => assumption))
  | (refine' Or.inr ?hz; (case hz => assumption)))
local macro_rules | `(tactic| walk_at "ar") => `(tactic| first
  | assumption
  | decide
  | omega
  | exact ⟨by omega, by omega⟩
  | exact Or.inl ⟨by omega, by omega⟩
  | exact Or.inr ⟨by omega, by omega⟩
  | exact ⟨by decide, by decide, by decide⟩)
local macro_rules | `(tactic| walk_at "lk") => `(tactic| first
  | assumption
  | exact sortF_rooms _ _
  | exact sortF_doors _ _
  | exact streetF_left _ _ _ _
  | exact streetF_first _ _ _ _
  | exact streetF_odd _ _ _ _
  | exact streetF_right _ _ _ _
  | exact sortF_no _ _ (by decide +kernel) (by decide +kernel)
  | exact streetF_no _ _ _ _ (by decide +kernel) (by decide +kernel) (by decide +kernel) (by decide +kernel))
local macro_rules | `(tactic| walk_at "x1") => `(tactic| first
  | (with_reducible refine' s_seq ?_)
  | ((with_reducible refine' s_var ?hv ?_); (case hv => exact rfl))
  | (with_reducible refine' s_c ?_)
  | (with_reducible refine' s_op ?_)
  | (with_reducible refine' s_asg ?_)
  | (with_reducible refine' s_ret ?_)
  | (with_reducible refine' s_I0 ?_)
  | ((with_reducible refine' s_I ?hc ?_); (case hc => walk_at "ar"))
  | (with_reducible refine' s_test ?_)
  | (with_reducible refine' s_bl ?_)
  | (with_reducible refine' s_ifS ?_)
  | (with_reducible refine' s_next ?_)
  | (with_reducible refine' s_dget ?_)
  | (with_reducible refine' s_cons ?_)
  | (with_reducible refine' s_nil ?_)
  | (with_reducible refine' s_CB ?_)
  | (with_reducible refine' s_lst ?_)
  | (with_reducible refine' s_tup ?_)
  | ((with_reducible refine' s_mkL ?hl ?_); (case hl => first | exact (Nat.le_of_ble_eq_true rfl) | omega))
  | ((with_reducible refine' s_mkT ?hl ?_); (case hl => first | exact (Nat.le_of_ble_eq_true rfl) | omega))
  | (with_reducible refine' s_drop ?_)
  | (with_reducible refine' s_and ?_)
  | (with_reducible refine' s_or ?_)
  | (with_reducible refine' s_not ?_)
  | (with_reducible refine' s_if ?_)
  | (with_reducible refine' s_un ?_)
  | (with_reducible refine' s_rU ?_)
  | (with_reducible refine' s_B ?_)
  | (with_reducible refine' s_yes ?_)
  | (with_reducible refine' s_andV ?_)
  | (with_reducible refine' s_orV ?_)
  | (with_reducible refine' s_notV ?_)
  | (with_reducible refine' s_chain ?_)
  | (with_reducible refine' s_disp ?_)
  | (with_reducible refine' s_pcons ?_)
  | (with_reducible refine' s_pnil ?_)
  | (with_reducible refine' s_dput ?_)
  | (with_reducible refine' s_sl ?_)
  | (with_reducible refine' s_noPart ?_)
  | (with_reducible refine' s_part ?_)
  | (with_reducible refine' s_pt ?_)
  | (with_reducible refine' s_bm ?_)
  | (with_reducible refine' s_bm0 ?_)
  | (with_reducible refine' s_fld ?_)
  | (with_reducible refine' s_fldS ?_)
  | (with_reducible refine' s_par ?_)
  | (with_reducible refine' s_pair ?_)
  | (with_reducible refine' s_par3 ?_)
  | (with_reducible refine' s_tri ?_)
  | (with_reducible refine' s_asgT ?_)
  | (with_reducible refine' s_gName ?_)
  | (with_reducible refine' s_gNil ?_)
  | (with_reducible refine' s_gCons ?_)
  | (with_reducible refine' s_retN ?_)
  | (with_reducible refine' s_call1 ?_)
  | (with_reducible refine' s_eqI ?_)
  | (with_reducible refine' s_neI ?_)
  | (with_reducible refine' s_eqS ?_)
  | (with_reducible refine' s_neS ?_)
  | (with_reducible refine' s_abs ?_)
  | (with_reducible refine' s_strS ?_)
  | (with_reducible refine' s_wt ?_)
  | (with_reducible refine' s_forR ?_)
  | (with_reducible refine' s_forL ?_)
  | (with_reducible refine' s_lcR ?_)
  | (with_reducible refine' s_lcL ?_)
  | (with_reducible refine' s_lcT ?_)
  | (with_reducible refine' s_m1 ?_)
  | (with_reducible refine' s_str ?_)
  | (with_reducible refine' s_gSub ?_)
  | (with_reducible refine' s_dnew ?_)
  | (with_reducible refine' s_lcS ?_)
  | (with_reducible refine' s_make ?_)
  | (with_reducible refine' s_intI ?_)
  | ((with_reducible refine' s_gTup ?hs ?hl ?_); (case hs => walk_at "sq"); (case hl => exact rfl))
  | (with_reducible refine' s_itT ?_)
  | (with_reducible refine' s_itF ?_)
  | ((with_reducible refine' s_dgetS ?hp ?he ?_); (case hp => walk_at "hp"); (case he => first | exact penK_rest _ _ _ | exact penK_turn _ _ _ | exact penK_cells _ _ _ | exact sortK_rooms _ _ | exact sortK_doors _ _ | exact streetK_left _ _ _ _ | exact streetK_first _ _ _ _ | exact streetK_odd _ _ _ _ | exact streetK_right _ _ _ _ | assumption))
  | ((with_reducible refine' s_dputS ?hp ?he ?hl ?_); (case hp => walk_at "hp"); (case he => first | exact put_turn _ _ _ _ | exact put_rest _ _ _ _ | exact rfl); (case hl => exact small1000 (Nat.le_of_ble_eq_true rfl)))
  | ((with_reducible refine' s_ixL ?hs ?he ?_); (case hs => walk_at "sq"); (case he => first | assumption | exact rfl))
  | ((with_reducible refine' s_ixT ?hs ?he ?_); (case hs => walk_at "sq"); (case he => first | assumption | exact rfl))
  | ((with_reducible refine' s_lenL ?hs ?_); (case hs => walk_at "sq"))
  | ((with_reducible refine' s_lenZ ?hs ?_); (case hs => assumption))
  | ((with_reducible refine' s_ixS ?hs ?he ?_); (case hs => assumption); (case he => first | assumption | exact rfl))
  | ((with_reducible refine' s_lstOf ?hs ?_); (case hs => walk_at "sq"))
  | ((with_reducible refine' s_slL ?hs ?_); (case hs => walk_at "sq"))
  | ((with_reducible refine' s_tyL ?hs ?_); (case hs => walk_at "sq"))
  | ((with_reducible refine' s_append ?hp ?hl ?_); (case hp => walk_at "hp"); (case hl => walk_at "ar"))
  | ((with_reducible refine' s_neL ?ha ?hb ?h0 ?_); (case ha => walk_at "sq"); (case hb => walk_at "sq"); (case h0 => first | exact Or.inr rfl | exact Or.inl rfl))
  | ((with_reducible refine' s_eqL ?ha ?hb ?h0 ?_); (case ha => walk_at "sq"); (case hb => walk_at "sq"); (case h0 => first | exact Or.inr rfl | exact Or.inl rfl))
  | ((with_reducible refine' s_clear ?hp ?_); (case hp => walk_at "hp"))
  | ((with_reducible refine' s_reverse ?hp ?_); (case hp => walk_at "hp"))
  | ((with_reducible refine' s_fldV ?hp ?hc ?hn ?he ?_); (case hp => walk_at "hp"); (case hc => assumption); (case hn => assumption); (case he => walk_at "lk"))
  | (with_reducible refine' s_methO ?_)
  | ((with_reducible refine' s_methV ?hp ?hn ?_); (case hp => walk_at "hp"); (case hn => walk_at "lk"))
  )
local macro_rules | `(tactic| walk_at "xs") => `(tactic| repeat (walk_at "x1"))
local macro_rules | `(tactic| walk_at "go") => `(tactic| ((try dsimp only [cxOf, Cx.nox, Cx.wish]); walk_at "xs"))
local macro_rules | `(tactic| walk_at "xu") => `(tactic| repeat (first | walk_at "x1" | (with_reducible refine' s_muU ?_)))

def spPen (K : PySem.W.Frag) : Sp := fun vs H Q _ => ∃ (a : Addr) (ns : List Int), vs = [.ref a] ∧ SqL K H a (ns.map V.int) ∧ ns.length ≤ 63 ∧ ∀ p c H', H p = none → Same H H' → Pen H' p c 0 → Q (.ref p) H'
theorem ok_law_pen {P : Program} {w : World} {K : PySem.W.Frag} {mg : Str → Option Value} {base : Heap} (T : Tx K mg) : FnOk P w K mg base CX0 1 T.a_law_pen T.fd_law_pen ["script"] (spPen K) := by
  refine T.F_law_pen.ok sc_law_pen (fun vs H Q E h => ?_) (fun cdv A outer s H vs Q E hr h => ?_)
  · obtain ⟨a, ns, rfl, _⟩ := h
    rfl
  · obtain ⟨a, ns, rfl, hS, hns, k⟩ := h
    refine ⟨_, (pss_one (ps_ret (pe_disp (pps_cons pe_str (pe_callTy call_lstOf (by rfl) T.z_list (by decide +kernel) (pa_cons (pe_slice sl_list (pv 0) po_none (po_some pe_int)) pa_nil)) (pps_cons pe_str pe_int (pps_cons pe_str pe_int pps_nil))) (by rfl) (by rfl) (fun z => by cases z) (by decide)))), ?_⟩
    walk_at "go"
    refine s_nu fun p hp => ?_
    have hS1 : SqL K (upd H p (.dK [])) a (ns.map V.int) := Same.seq (Same.new (Same.refl H) hp) hS
    walk_at "xu"
    refine s_nu fun l hl => ?_
    walk_at "xu"
    refine s_nu fun l2 hl2 => ?_
    walk_at "xu"
    refine s_ds (kvs := penK l2 0 0) (by walk_at "hp") rfl (by show 3 ≤ 15; decide) (make_pen _ _ _) ?_
    refine s_muU ?_
    have e : cutV (ns.map V.int) none (some 63) = (ns.take 63).map V.int := by
      rw [cutV_to (by decide), List.map_take]
      rfl
    have hn2 : l2 ≠ p := by
      intro z
      rw [z, upd_ne (by intro z; rw [z, upd_same] at hl; cases hl), upd_same] at hl2
      cases hl2
    refine k _ _ _ hp ?_ ⟨ns.take 63, 0, 0, upd_same, ?_, by simp; omega, by omega, by omega, by omega⟩
    · intro b o hb
      have h1 := ne_of_none hb hp
      have h2 := ne_of_none (upd_new hb hp (u := .dK [])) hl
      have h3 := ne_of_none (upd_new (upd_new hb hp (u := .dK [])) hl) hl2
      rw [upd_ne h1, upd_ne h3, upd_ne h2, upd_ne h1]
      exact hb
    · rw [upd_ne hn2, upd_same, e]
def spDraw : Sp := fun vs H Q _ => ∃ (p c : Addr) (m : Int) (n : Nat), vs = [.ref p, .int m] ∧ Pen H p c n ∧ n < 2 ^ 62 ∧ 0 < m ∧ m < 1073741824 ∧ ∀ (d : Int) H', 0 ≤ d → d < m → Sb p H H' → Pen H' p c (n + 1) → Q (.int d) H'
theorem ok_law_draw {P : Program} {w : World} {K : PySem.W.Frag} {mg : Str → Option Value} {base : Heap} (T : Tx K mg) : FnOk P w K mg base CX0 1 T.a_law_draw T.fd_law_draw ["pen", "many"] (spDraw) := by
  refine T.F_law_draw.ok sc_law_draw (fun vs H Q E h => ?_) (fun cdv A outer s H vs Q E hr h => ?_)
  · obtain ⟨p, c, m, n, rfl, _⟩ := h
    rfl
  · obtain ⟨p, c, m, n, rfl, hP, hn, hm, hm2, k⟩ := h
    have hu := hu_of hr
    refine ⟨_, (pss_cons (ps_if (pt_cmpR op_gt (pe_dget hu (pv 0) pe_str (fun _ _ => rfl)) pe_int (nomark _))
      (pss_cons (ps_set (i := 2) (sc_law_draw).nd rfl (Or.inl rfl) (pe_op op_mod (pe_dget hu (pv 0) pe_str (fun _ _ => rfl)) (pv 1)))
      (pss_cons (ps_dput hu (pv 0) pe_str (pe_op op_fdiv (pe_dget hu (pv 0) pe_str (fun _ _ => rfl)) (pv 1)) rfl)
      (pss_one (ps_ret (pv 2)))))
      pss_nil)
      (pss_cons (ps_set (i := 3) (sc_law_draw).nd rfl (Or.inl rfl) (pe_dget hu (pv 0) pe_str (fun _ _ => rfl)))
      (pss_cons (ps_dput hu (pv 0) pe_str (pe_op op_add (pv 3) pe_int) rfl)
      (pss_cons (ps_set (i := 4) (sc_law_draw).nd rfl (Or.inl rfl) (pe_op op_add (pe_op op_mul pe_int (pv 3)) pe_int))
      (Evl.pss_cut (ps_if (pt_cmpR (op_neNil hr.units0) (pe_dget hu (pv 0) pe_str (fun _ _ => rfl)) (pe_lst pa_nil) (nomark _))
      (pss_one (ps_set (i := 4) (sc_law_draw).nd rfl (Or.inl rfl) (pe_ix ix_list (pe_dget hu (pv 0) pe_str (fun _ _ => rfl)) (pe_op op_mod (pv 3) (pe_callB call_lenL (by rfl) T.z_len (by decide +kernel) (pa_cons (pe_dget hu (pv 0) pe_str (fun _ _ => rfl)) pa_nil))) (fun _ _ => rfl))))
      pss_nil)
      (Evl.pss_cut (ps_if (PW.pt (pw_and (pt_cmpR op_lt (pv 3) (pe_callB call_lenL (by rfl) T.z_len (by decide +kernel) (pa_cons (pe_dget hu (pv 0) pe_str (fun _ _ => rfl)) pa_nil)) (nomark _)) (pw_and1 (pt_cmpR op_ge (pe_callB call_absI (by rfl) T.z_abs (by decide +kernel) (pa_cons (pv 4) pa_nil)) (pe_op op_pow pe_int pe_int) (nomark _)))))
      (pss_cons (ps_dput hu (pv 0) pe_str (pe_op op_fdiv (pe_op op_sub (pe_callB call_absI (by rfl) T.z_abs (by decide +kernel) (pa_cons (pv 4) pa_nil)) (pe_op op_pow pe_int pe_int)) (pv 1)) rfl)
      (pss_one (ps_ret (pe_op op_mod (pe_op op_sub (pe_callB call_absI (by rfl) T.z_abs (by decide +kernel) (pa_cons (pv 4) pa_nil)) (pe_op op_pow pe_int pe_int)) (pv 1)))))
      pss_nil)
      (pss_cons (ps_set (i := 5) (sc_law_draw).nd rfl (Or.inl rfl) (pe_lst (pa_cons pe_int (pa_cons pe_int (pa_cons pe_int (pa_cons pe_int (pa_cons pe_int pa_nil)))))))
      (pss_cons (ps_set (i := 6) (sc_law_draw).nd rfl (Or.inl rfl) (pe_ix ix_list (pv 5) (pe_op op_mod (pv 3) pe_int) (fun _ _ => rfl)))
      (pss_cons (ps_set (i := 7) (sc_law_draw).nd rfl (Or.inl rfl) (pe_op op_mod (pe_op op_add (pe_op op_add (pe_op op_mul (pe_op op_mod (pv 4) (pv 6)) pe_int) (pe_op op_mul (pe_op op_mul pe_int (pv 3)) (pv 3))) pe_int) (pv 6)))
      (pss_cons (ps_set (i := 7) (sc_law_draw).nd rfl (Or.inl rfl) (pe_op op_mod (pe_op op_mul (pv 7) (pe_op op_add (pv 7) pe_int)) (pe_ix ix_list (pv 5) (pe_op op_mod (pe_op op_add (pv 3) pe_int) pe_int) (fun _ _ => rfl))))
      (pss_one (ps_ret (pe_op op_mod (pe_op op_fdiv (pe_op op_mod (pe_op op_mul (pv 7) (pv 7)) pe_int) pe_int) (pv 1)))))))))))))), ?_⟩
    try dsimp only [cxOf, Cx.nox, Cx.wish]
    obtain ⟨ns, t, r, h1, h2, h3, h4, h5, h6⟩ := id hP
    have hcp : c ≠ p := ne_of h2 h1 (by intro z; cases z)
    have t64 : t < 2 ^ 64 := by omega
    walk_at "xu"
    refine ite2 (fun h0 => ?_) (fun h0 => ?_)
    · walk_at "xu"
      refine k (r % m) _ (Int.emod_nonneg _ (by omega)) (Int.emod_lt_of_pos _ hm) ((Sb.refl p H).pen) ⟨ns, t, r / m, upd_same, upd_keep h2 hcp, h3, h4, by omega, Int.ediv_nonneg h6 (by omega)⟩
    · walk_at "xu"
      refine s_cut (fun σ' H' => ∃ x : Int, σ' = [some (.ref p), some (.int m), none, some (.int t), some (.int x), none, none, none] ∧ H' c = some (.lst (ns.map V.int)) ∧ H' p = some (.dK (penK c (t + 1) r)) ∧ Sb p H H') ?_ ?_
      · walk_at "xu"
        refine s_nu fun l0 hl0 => ?_
        have hc1 : upd (upd H p (.dK (penK c (t + 1) r))) l0 (.lst []) c = some (.lst (ns.map V.int)) := by walk_at "hp"
        have hp1 : upd (upd H p (.dK (penK c (t + 1) r))) l0 (.lst []) p = some (.dK (penK c (t + 1) r)) := by walk_at "hp"
        have hl1 : upd (upd H p (.dK (penK c (t + 1) r))) l0 (.lst []) l0 = some (.lst []) := upd_same
        have s1 : Sb p H (upd (upd H p (.dK (penK c (t + 1) r))) l0 (.lst [])) := Sb.trans ((Sb.refl p H).pen) ((Sb.refl p _).new hl0)
        generalize upd (upd H p (.dK (penK c (t + 1) r))) l0 (.lst []) = H1 at hc1 hp1 s1 hl1
        walk_at "xu"
        refine ite2 (fun h7 => ?_) (fun h7 => ?_)
        · have hpos : 0 < ns.length := by
            cases ns with
            | nil => simp at h7
            | cons => simp
          have hm0 : (0 : Int) < ((ns.map V.int).length : Nat) := by simp; omega
          have hi := Int.emod_nonneg t (b := ((ns.map V.int).length : Nat)) (by omega)
          have hj := Int.emod_lt_of_pos t hm0
          obtain ⟨j, hje⟩ := Int.eq_ofNat_of_zero_le hi
          have hjl : j < (ns.map V.int).length := by omega
          have hat : atI (ns.map V.int) (t % ((ns.map V.int).length : Nat)) = some ((ns.map V.int)[j]) := by
            rw [hje]
            exact atI_nat (List.getElem?_eq_getElem hjl)
          rw [List.getElem_map] at hat
          walk_at "xu"
          exact ⟨_, rfl, hc1, hp1, s1⟩
        · walk_at "xu"
          exact ⟨_, rfl, hc1, hp1, s1⟩
      · rintro σ' H1 ⟨x, rfl, hc1, hp1, s1⟩
        refine s_cut (fun σ' H' => σ' = [some (.ref p), some (.int m), none, some (.int t), some (.int x), none, none, none] ∧ H' = H1) ?_ ?_
        · walk_at "xu"
          refine ite2 (fun h7 => ?_) (fun h7 => ?_)
          · walk_at "xu"
            refine ite2 (fun h8 => ?_) (fun h8 => ?_)
            · have h9 : (0 : Int) ≤ (if x < 0 then -x else x) - 10 ^ Int.toNat 18 := by
                have := of_decide_eq_true h8
                omega
              walk_at "xu"
              refine k _ _ (Int.emod_nonneg _ (by omega)) (Int.emod_lt_of_pos _ hm) s1.pen ⟨ns, t + 1, _, upd_same, upd_keep hc1 hcp, h3, by omega, by omega, Int.ediv_nonneg h9 (by omega)⟩
            · walk_at "xu"
              exact ⟨rfl, rfl⟩
          · walk_at "xu"
            exact ⟨rfl, rfl⟩
        · rintro σ' H' ⟨rfl, rfl⟩
          walk_at "xu"
          refine s_nu fun l1 hl1 => ?_
          walk_at "xu"
          obtain ⟨q1, e1, q1a, q1b⟩ := at_prime t
          obtain ⟨q2, e2, q2a, q2b⟩ := at_prime (t + 3)
          have c1 : CMul (x % q1) 69621 := Or.inr ⟨by decide, by decide⟩
          have c2 : CMul 40692 t := Or.inl ⟨by decide, by decide⟩
          have c3 : CMul (40692 * t) t := Or.inr ⟨by omega, by omega⟩
          generalize ed : (x % q1 * 69621 + 40692 * t * t + 11) % q1 = d0
          have d0a : 0 ≤ d0 := by rw [← ed]; exact Int.emod_nonneg _ (by omega)
          have d0b : d0 < q1 := by rw [← ed]; exact Int.emod_lt_of_pos _ q1a
          have c4 : CMul d0 (d0 + 48271) := Or.inl ⟨by omega, by omega⟩
          walk_at "xu"
          rw [ed]
          walk_at "xu"
          generalize ed2 : d0 * (d0 + 48271) % q2 = d2
          have d2a : 0 ≤ d2 := by rw [← ed2]; exact Int.emod_nonneg _ (by omega)
          have d2b : d2 < q2 := by rw [← ed2]; exact Int.emod_lt_of_pos _ q2a
          walk_at "xu"
          exact k _ _ (Int.emod_nonneg _ (by omega)) (Int.emod_lt_of_pos _ hm) (s1.trans ((Sb.refl p H').new hl1)) ⟨ns, t + 1, r, upd_new hp1 hl1, upd_new hc1 hl1, h3, by omega, by omega, h6⟩
def spPick : Sp := fun vs H Q _ => ∃ (p c s : Addr) (xs : List V) (n : Nat), vs = [.ref p, .ref s] ∧ Pen H p c n ∧ n < 2 ^ 62 ∧ H s = some (.lst xs) ∧ 0 < xs.length ∧ xs.length < 1073741824 ∧ ∀ (v : V) H', v ∈ xs → Sb p H H' → Pen H' p c (n + 1) → Q v H'
theorem ok_law_pick {P : Program} {w : World} {K : PySem.W.Frag} {mg : Str → Option Value} {base : Heap} (T : Tx K mg) : FnOk P w K mg base CX0 2 T.a_law_pick T.fd_law_pick ["pen", "some"] (spPick) := by
  refine T.F_law_pick.ok sc_law_pick (fun vs H Q E h => ?_) (fun cdv A outer s H vs Q E hr h => ?_)
  · obtain ⟨p, c, s, xs, n, rfl, _⟩ := h
    rfl
  · obtain ⟨p, c, s, xs, n, rfl, hP, hn, hs, h0, h1, k⟩ := h
    refine ⟨_, (pss_one (ps_ret (pe_ix ix_list (pv 1) (pe_call (ok_law_draw T) (hr.mono (by decide)) (by rfl) T.g_law_draw T.k_law_draw T.b_law_draw .nil pass0 (pa_cons (pv 0) (pa_cons (pe_callB call_lenL (by rfl) T.z_len (by decide +kernel) (pa_cons (pv 1) pa_nil)) pa_nil))) (fun _ _ => rfl)))), ?_⟩
    walk_at "go"
    refine ⟨p, c, _, n, rfl, hP, hn, by omega, by omega, fun d H1 hd0 hd1 s1 hP1 => ?_⟩
    have hs1 := s1 _ _ (hP.ne hs) hs
    obtain ⟨v, hv, e⟩ := at_in (xs := xs) hd0 hd1
    walk_at "xu"
    exact k v H1 hv s1 hP1
def spPickS : Sp := fun vs H Q _ => ∃ (p c : Addr) (z : Str) (n : Nat), vs = [.ref p, .str z] ∧ Pen H p c n ∧ n < 2 ^ 62 ∧ 0 < z.length ∧ z.length < 1000000 ∧ ∀ (x : Nat) H', x ∈ z.cps.toList → Sb p H H' → Pen H' p c (n + 1) → Q (.str ⟨#[x]⟩) H'
theorem ok_law_pickS {P : Program} {w : World} {K : PySem.W.Frag} {mg : Str → Option Value} {base : Heap} (T : Tx K mg) : FnOk P w K mg base CX0 2 T.a_law_pick T.fd_law_pick ["pen", "some"] (spPickS) := by
  refine T.F_law_pick.ok sc_law_pick (fun vs H Q E h => ?_) (fun cdv A outer s H vs Q E hr h => ?_)
  · obtain ⟨p, c, z, n, rfl, _⟩ := h
    rfl
  · obtain ⟨p, c, z, n, rfl, hP, hn, h0, h1, k⟩ := h
    refine ⟨_, (pss_one (ps_ret (pe_ix ix_str (pv 1) (pe_call (ok_law_draw T) (hr.mono (by decide)) (by rfl) T.g_law_draw T.k_law_draw T.b_law_draw .nil pass0 (pa_cons (pv 0) (pa_cons (pe_callB call_lenZ (by rfl) T.z_len (by decide +kernel) (pa_cons (pv 1) pa_nil)) pa_nil))) (fun _ _ => rfl)))), ?_⟩
    try dsimp only [cxOf, Cx.nox, Cx.wish]
    have hz : z.length ≤ sizeLine := by rw [sizeLine_eq]; omega
    walk_at "xu"
    refine ⟨p, c, _, n, rfl, hP, hn, by omega, by omega, fun d H1 hd0 hd1 s1 hP1 => ?_⟩
    obtain ⟨v, hv, e⟩ := at_in (xs := z.cps.toList) hd0 hd1
    walk_at "xu"
    exact k v H1 hv s1 hP1
def spShuf : Sp := fun vs H Q _ => ∃ (p c s : Addr) (xs : List V) (n : Nat), vs = [.ref p, .ref s] ∧ Pen H p c n ∧ n + xs.length < 2 ^ 62 ∧ H s = some (.lst xs) ∧ xs.length ≤ 1000 ∧
  ∀ (q : Addr) (ys : List V) H', H q = none → H' q = some (.lst ys) → ys.Perm xs → Sb p H H' → Pen H' p c (n + xs.length) → Q (.ref q) H'
theorem ok_law_shuffled {P : Program} {w : World} {K : PySem.W.Frag} {mg : Str → Option Value} {base : Heap} (T : Tx K mg) : FnOk P w K mg base CX0 2 T.a_law_shuffled T.fd_law_shuffled ["pen", "some"] (spShuf) := by
  refine T.F_law_shuffled.ok sc_law_shuffled (fun vs H Q E h => ?_) (fun cdv A outer s H vs Q E hr h => ?_)
  · obtain ⟨p, c, s, xs, n, rfl, _⟩ := h
    rfl
  · obtain ⟨p, c, s, xs, n, rfl, hP, hn, hs, h0, k⟩ := h
    refine ⟨_, (pss_cons (ps_par (i := 2) (j := 3) (by rfl) (sc_law_shuffled).nd rfl rfl (by decide) rfl rfl (pa_cons (pe_callTy call_lstOf (by rfl) T.z_list (by decide +kernel) (pa_cons (pv 1) pa_nil)) (pa_cons (pe_lst pa_nil) pa_nil)) (by rfl))
      (pss_cons (ps_while PassesOwn.never (pt_cmpR (op_neNil hr.units0) (pv 2) (pe_lst pa_nil) (nomark _))
      (pss_one (ps_expr (pe_bm PySem.F.plainAttrs_list PySem.F.slot_list_append PySem.F.type_list_append mt_append (pv 3) (pa_cons (pe_bm PySem.F.plainAttrs_list PySem.F.slot_list_pop PySem.F.type_list_pop mt_popAt (pv 2) (pa_cons (pe_call (ok_law_draw T) (hr.mono (by decide)) (by rfl) T.g_law_draw T.k_law_draw T.b_law_draw .nil pass0 (pa_cons (pv 0) (pa_cons (pe_callB call_lenL (by rfl) T.z_len (by decide +kernel) (pa_cons (pv 2) pa_nil)) pa_nil))) pa_nil)) pa_nil)))))
      (pss_one (ps_ret (pv 3))))), ?_⟩
    walk_at "go"
    refine s_nu fun l hl => ?_
    walk_at "xu"
    refine s_nu fun f hf => ?_
    have hlf : f ≠ l := by
      intro z
      rw [z, upd_same] at hf
      cases hf
    have hfn : H f = none := free_upd hf
    have hlp : l ≠ p := hP.neN hl
    have hfp : f ≠ p := hP.neN hfn
    walk_at "xu"
    refine s_while (fun m σ H' => ∃ ys zs : List V, σ = [some (.ref p), some (.ref s), some (.ref l), some (.ref f)] ∧ H' l = some (.lst ys) ∧ H' f = some (.lst zs) ∧ m = ys.length ∧ (zs ++ ys).Perm xs ∧ Sb p H H' ∧ Pen H' p c (n + zs.length)) xs.length
      ⟨xs, [], rfl, by walk_at "hp", upd_same, rfl, List.Perm.refl _, ((Sb.refl p H).new hl).new hfn, (hP.new hl).new hf⟩ ?_
    rintro m σ H1 ⟨ys, zs, rfl, h1, h2, rfl, hpm, s1, hP1⟩
    have hlen : zs.length + ys.length = xs.length := by
      rw [← List.length_append]; exact hpm.length_eq
    walk_at "xu"
    refine s_nu fun l0 hl0 => ?_
    have h1' : upd H1 l0 (.lst []) l = some (.lst ys) := by walk_at "hp"
    have h2' : upd H1 l0 (.lst []) f = some (.lst zs) := by walk_at "hp"
    have h3' : upd H1 l0 (.lst []) l0 = some (.lst []) := upd_same
    have s1' : Sb p H (upd H1 l0 (.lst [])) := s1.trans ((Sb.refl p H1).new hl0)
    have hP1' := hP1.new hl0 (o := .lst [])
    generalize upd H1 l0 (.lst []) = H2 at h1' h2' h3' s1' hP1'
    walk_at "xu"
    refine ite2 (fun h7 => ?_) (fun h7 => ?_)
    · have hpos : 0 < ys.length := by
        cases ys with
        | nil => simp at h7
        | cons => simp
      walk_at "xu"
      refine ⟨p, c, _, n + zs.length, rfl, hP1', by omega, by omega, by omega, fun d H3 hd0 hd1 s3 hP3 => ?_⟩
      have h13 := s3 _ _ hlp h1'
      have h23 := s3 _ _ hfp h2'
      have hdl : d.toNat < ys.length := by omega
      walk_at "xu"
      refine s_popAt h13 (by omega) (by omega) (seqIx hd0 hd1) (List.getElem?_eq_getElem hdl) ?_
      refine s_muU ?_
      have h24 : upd H3 l (.lst (ys.eraseIdx d.toNat)) f = some (.lst zs) := upd_keep h23 hlf
      have hz : zs.length < sizeLine := by rw [sizeLine_eq]; omega
      walk_at "xu"
      refine ⟨_, ?_, ys.eraseIdx d.toNat, zs ++ [ys[d.toNat]], rfl, ?_, upd_same, rfl, ?_, ?_, ?_⟩
      · rw [List.length_eraseIdx]
        simp only [hdl, if_true]
        omega
      · exact upd_keep upd_same (Ne.symm hlf)
      · refine List.Perm.trans ?_ hpm
        rw [List.append_assoc]
        refine List.Perm.append_left zs ?_
        exact perm_cons_erase hdl
      · intro b u hb e
        have e1 := s1' b u hb e
        have e3 := s3 b u hb e1
        have n1 : b ≠ l := ne_of_none e hl
        have n2 : b ≠ f := ne_of_none e hfn
        rw [upd_ne n2, upd_ne n1]
        exact e3
      · have e4 : n + (zs ++ [ys[d.toNat]]).length = n + zs.length + 1 := by simp; omega
        rw [e4]
        exact (hP3.upd hlp (hP.neC hl)).upd hfp (hP.neC hfn)
    · have y0 : ys = [] := by
        cases ys with
        | nil => rfl
        | cons => simp at h7
      subst y0
      walk_at "xu"
      refine k f zs _ hfn h2' (by simpa using hpm) s1' ?_
      have : n + xs.length = n + zs.length := by simp at hlen; omega
      rw [this]
      exact hP1'
end LH
end
section
set_option maxRecDepth 100000
set_option maxHeartbeats 4000000
namespace LH
open PySem L2
local macro_rules | `(tactic| walk_at "ne") => `(tactic| first
  | assumption
  | (refine' Ne.symm ?hz; (case hz => assumption)))
local macro_rules | `(tactic| walk_at "hp") => `(tactic| first
  | assumption
  | exact upd_same
  | (refine' Same.look (by assumption) ?hz; (case hz => walk_at "hp"))
  | (refine' Sb.look (by assumption) ?hn ?hz; (case hn => walk_at "ne"); (case hz => walk_at "hp"))
  | (refine' upd_new ?hz (by assumption); (case hz => walk_at "hp"))
  | (refine' upd_keep ?hz (by assumption); (case hz => walk_at "hp"))
  | (refine' upd_keep' ?hz (by assumption); (case hz => walk_at "hp")))
local macro_rules | `(tactic| walk_at "sb") => `(tactic| first
  | assumption
  | exact Sb.refl _ _
  | exact Same.refl _
  | (refine' Sb.of_same ?hz; (case hz => assumption))
  | (refine' Sb.trans ?hz (Sb.of_same (by assumption)); (case hz => walk_at "sb"))
  | (refine' Sb.trans ?hz (by assumption); (case hz => walk_at "sb"))
  | (refine' Sb.mut ?hz (by assumption) ?hn; (case hz => walk_at "sb"); (case hn => walk_at "fr"))
  | (refine' Same.trans ?hz (by assumption); (case hz => walk_at "sb"))
  | (refine' Same.mut ?hz (by assumption) ?hn; (case hz => walk_at "sb"); (case hn => walk_at "fr")))
local macro_rules | `(tactic| walk_at "fr") => `(tactic| first
  | assumption
  | (refine' Same.free' (by assumption) ?hz; (case hz => walk_at "fr"))
  | (refine' Sb.free (by assumption) ?hn ?hz; (case hz => walk_at "fr"); (case hn => walk_at "ne")))
local macro_rules | `(tactic| walk_at "pn") => `(tactic| first
  | assumption
  | (refine' Pen.same ?hz (by assumption); (case hz => walk_at "pn"))
  | (refine' Pen.sb ?hz (by assumption) ?hn ?hm; (case hz => walk_at "pn"); (case hn => walk_at "ne"); (case hm => walk_at "ne")))
local macro_rules | `(tactic| walk_at "sq") => `(tactic| first
  | assumption
  | (refine' SqL.of ?hz; (case hz => walk_at "hp"))
  | (refine' SqT.of ?hz; (case hz => walk_at "hp"))
  | (refine' Or.inl (SqL.of ?hz); (case hz => walk_at "hp"))
  | (refine' Or.inr (SqT.of ?hz); (case hz => walk_at "hp"))
  | (refine' Or.inl ?hz; (case hz => assumption))
  | (refine' Or.inr ?hz; (case hz => assumption)))
local macro_rules | `(tactic| walk_at "ar") => `(tactic| first
  | assumption
  | decide
  | omega
  | exact ⟨by omega, by omega⟩
  | exact Or.inl ⟨by omega, by omega⟩
  | exact Or.inr ⟨by omega, by omega⟩
  | exact ⟨by decide, by decide, by decide⟩)
local macro_rules | `(tactic| walk_at "lk") => `(tactic| first
  | assumption
  | exact sortF_rooms _ _
  | exact sortF_doors _ _
  | exact streetF_left _ _ _ _
  | exact streetF_first _ _ _ _
  | exact streetF_odd _ _ _ _
  | exact streetF_right _ _ _ _
  | exact sortF_no _ _ (by decide +kernel) (by decide +kernel)
  | exact streetF_no _ _ _ _ (by decide +kernel) (by decide +kernel) (by decide +kernel) (by decide +kernel))
local macro_rules | `(tactic| walk_at "x1") => `(tactic| first
  | (with_reducible refine' s_seq ?_)
  | ((with_reducible refine' s_var ?hv ?_); (case hv => exact rfl))
  | (with_reducible refine' s_c ?_)
  | (with_reducible refine' s_op ?_)
  | (with_reducible refine' s_asg ?_)
  | (with_reducible refine' s_ret ?_)
  | (with_reducible refine' s_I0 ?_)
  | ((with_reducible refine' s_I ?hc ?_); (case hc => walk_at "ar"))
  | (with_reducible refine' s_test ?_)
  | (with_reducible refine' s_bl ?_)
  | (with_reducible refine' s_ifS ?_)
  | (with_reducible refine' s_next ?_)
  | (with_reducible refine' s_dget ?_)
  | (with_reducible refine' s_cons ?_)
  | (with_reducible refine' s_nil ?_)
  | (with_reducible refine' s_CB ?_)
  | (with_reducible refine' s_lst ?_)
  | (with_reducible refine' s_tup ?_)
  | ((with_reducible refine' s_mkL ?hl ?_); (case hl => first | exact (Nat.le_of_ble_eq_true rfl) | omega))
  | ((with_reducible refine' s_mkT ?hl ?_); (case hl => first | exact (Nat.le_of_ble_eq_true rfl) | omega))
  | (with_reducible refine' s_drop ?_)
  | (with_reducible refine' s_and ?_)
  | (with_reducible refine' s_or ?_)
  | (with_reducible refine' s_not ?_)
  | (with_reducible refine' s_if ?_)
  | (with_reducible refine' s_un ?_)
  | (with_reducible refine' s_rU ?_)
  | (with_reducible refine' s_B ?_)
  | (with_reducible refine' s_yes ?_)
  | (with_reducible refine' s_andV ?_)
  | (with_reducible refine' s_orV ?_)
  | (with_reducible refine' s_notV ?_)
  | (with_reducible refine' s_chain ?_)
  | (with_reducible refine' s_disp ?_)
  | (with_reducible refine' s_pcons ?_)
  | (with_reducible refine' s_pnil ?_)
  | (with_reducible refine' s_dput ?_)
  | (with_reducible refine' s_sl ?_)
  | (with_reducible refine' s_noPart ?_)
  | (with_reducible refine' s_part ?_)
  | (with_reducible refine' s_pt ?_)
  | (with_reducible refine' s_bm ?_)
  | (with_reducible refine' s_bm0 ?_)
  | (with_reducible refine' s_fld ?_)
  | (with_reducible refine' s_fldS ?_)
  | (with_reducible refine' s_par ?_)
  | (with_reducible refine' s_pair ?_)
  | (with_reducible refine' s_par3 ?_)
  | (with_reducible refine' s_tri ?_)
  | (with_reducible refine' s_asgT ?_)
  | (with_reducible refine' s_gName ?_)
  | (with_reducible refine' s_gNil ?_)
  | (with_reducible refine' s_gCons ?_)
  | (with_reducible refine' s_retN ?_)
  | (with_reducible refine' s_call1 ?_)
  | (with_reducible refine' s_eqI ?_)
  | (with_reducible refine' s_neI ?_)
  | (with_reducible refine' s_eqS ?_)
  | (with_reducible refine' s_neS ?_)
  | (with_reducible refine' s_abs ?_)
  | (with_reducible refine' s_strS ?_)
  | (with_reducible refine' s_wt ?_)
  | (with_reducible refine' s_forR ?_)
  | (with_reducible refine' s_forL ?_)
  | (with_reducible refine' s_lcR ?_)
  | (with_reducible refine' s_lcL ?_)
  | (with_reducible refine' s_lcT ?_)
  | (with_reducible refine' s_m1 ?_)
  | (with_reducible refine' s_str ?_)
  | (with_reducible refine' s_gSub ?_)
  | (with_reducible refine' s_dnew ?_)
  | (with_reducible refine' s_lcS ?_)
  | (with_reducible refine' s_make ?_)
  | (with_reducible refine' s_intI ?_)
  | ((with_reducible refine' s_gTup ?hs ?hl ?_); (case hs => walk_at "sq"); (case hl => exact rfl))
  | (with_reducible refine' s_itT ?_)
  | (with_reducible refine' s_itF ?_)
  | ((with_reducible refine' s_dgetS ?hp ?he ?_); (case hp => walk_at "hp"); (case he => first | exact penK_rest _ _ _ | exact penK_turn _ _ _ | exact penK_cells _ _ _ | exact sortK_rooms _ _ | exact sortK_doors _ _ | exact streetK_left _ _ _ _ | exact streetK_first _ _ _ _ | exact streetK_odd _ _ _ _ | exact streetK_right _ _ _ _ | assumption))
  | ((with_reducible refine' s_dputS ?hp ?he ?hl ?_); (case hp => walk_at "hp"); (case he => first | exact put_turn _ _ _ _ | exact put_rest _ _ _ _ | exact rfl); (case hl => exact small1000 (Nat.le_of_ble_eq_true rfl)))
  | ((with_reducible refine' s_ixL ?hs ?he ?_); (case hs => walk_at "sq"); (case he => first | assumption | exact rfl))
  | ((with_reducible refine' s_ixT ?hs ?he ?_); (case hs => walk_at "sq"); (case he => first | assumption | exact rfl))
  | ((with_reducible refine' s_lenL ?hs ?_); (case hs => walk_at "sq"))
  | ((with_reducible refine' s_lenZ ?hs ?_); (case hs => assumption))
  | ((with_reducible refine' s_ixS ?hs ?he ?_); (case hs => assumption); (case he => first | assumption | exact rfl))
  | ((with_reducible refine' s_lstOf ?hs ?_); (case hs => walk_at "sq"))
  | ((with_reducible refine' s_slL ?hs ?_); (case hs => walk_at "sq"))
  | ((with_reducible refine' s_tyL ?hs ?_); (case hs => walk_at "sq"))
  | ((with_reducible refine' s_append ?hp ?hl ?_); (case hp => walk_at "hp"); (case hl => walk_at "ar"))
  | ((with_reducible refine' s_neL ?ha ?hb ?h0 ?_); (case ha => walk_at "sq"); (case hb => walk_at "sq"); (case h0 => first | exact Or.inr rfl | exact Or.inl rfl))
  | ((with_reducible refine' s_eqL ?ha ?hb ?h0 ?_); (case ha => walk_at "sq"); (case hb => walk_at "sq"); (case h0 => first | exact Or.inr rfl | exact Or.inl rfl))
  | ((with_reducible refine' s_clear ?hp ?_); (case hp => walk_at "hp"))
  | ((with_reducible refine' s_reverse ?hp ?_); (case hp => walk_at "hp"))
  | ((with_reducible refine' s_fldV ?hp ?hc ?hn ?he ?_); (case hp => walk_at "hp"); (case hc => assumption); (case hn => assumption); (case he => walk_at "lk"))
  | (with_reducible refine' s_methO ?_)
  | ((with_reducible refine' s_methV ?hp ?hn ?_); (case hp => walk_at "hp"); (case hn => walk_at "lk"))
  )
local macro_rules | `(tactic| walk_at "xs") => `(tactic| repeat (walk_at "x1"))
local macro_rules | `(tactic| walk_at "go") => `(tactic| ((try dsimp only [cxOf, Cx.nox, Cx.wish]); walk_at "xs"))
local macro_rules | `(tactic| walk_at "xu") => `(tactic| repeat (first | walk_at "x1" | (with_reducible refine' s_muU ?_)))

def spNames : Sp := fun vs H Q _ => ∃ (p c : Addr) (m : Int) (n : Nat), vs = [.ref p, .int m] ∧ Pen H p c n ∧ n + 20 < 2 ^ 62 ∧ 1 ≤ m ∧ m ≤ 18 ∧
  ∀ (q : Addr) (zs : List Str) H', H q = none → H' q = some (.lst (zs.map V.str)) → zs.length = m.toNat → (∀ z ∈ zs, Nm z) → Sb p H H' → Pen H' p c (n + 20) → Q (.ref q) H'
theorem ok_law_names {P : Program} {w : World} {K : PySem.W.Frag} {mg : Str → Option Value} {base : Heap} (T : Tx K mg) : FnOk P w K mg base CX0 3 T.a_law_names T.fd_law_names ["pen", "many"] (spNames) := by
  refine T.F_law_names.ok sc_law_names (fun vs H Q E h => ?_) (fun cdv A outer s H vs Q E hr h => ?_)
  · obtain ⟨p, c, m, n, rfl, _⟩ := h
    rfl
  · obtain ⟨p, c, m, n, rfl, hP, hn, hm, hm2, k⟩ := h
    refine ⟨_, (pss_cons (ps_if (pt_cmpR op_eq (pe_call (ok_law_draw T) (hr.mono (by decide)) (by rfl) T.g_law_draw T.k_law_draw T.b_law_draw .nil pass0 (pa_cons (pv 0) (pa_cons pe_int pa_nil))) pe_int (nomark _))
      (pss_cons (ps_set (i := 2) (sc_law_names).nd rfl (Or.inl rfl) (pe_lst (pa_cons pe_str (pa_cons pe_str (pa_cons pe_str (pa_cons pe_str (pa_cons pe_str (pa_cons pe_str (pa_cons pe_str (pa_cons pe_str (pa_cons pe_str (pa_cons pe_str pa_nil))))))))))))
      (pss_cons (ps_set (i := 3) (sc_law_names).nd rfl (Or.inl rfl) (pe_call (ok_law_draw T) (hr.mono (by decide)) (by rfl) T.g_law_draw T.k_law_draw T.b_law_draw .nil pass0 (pa_cons (pv 0) (pa_cons pe_int pa_nil))))
      (pss_one (ps_ret (pe_slice sl_list (pe_slice sl_list (pe_op op_rep (pe_op op_cat (pv 2) (pe_lst (pa_cons pe_str (pa_cons pe_str (pa_cons pe_str (pa_cons pe_str (pa_cons pe_str (pa_cons pe_str (pa_cons pe_str (pa_cons pe_str pa_nil)))))))))) pe_int) (po_some (pv 3)) po_none) po_none (po_some (pv 1)))))))
      pss_nil)
      (pss_cons (ps_set (i := 4) (sc_law_names).nd rfl (Or.inr rfl) pe_str)
      (pss_cons (ps_set (i := 5) (sc_law_names).nd rfl (Or.inl rfl) (pe_joinS pe_str (pe_lc (own := [("k", 6)]) rfl (sc_law_names).nd (pi_range1 rfl T.z_range (pa_cons (pe_op op_add pe_int (pe_call (ok_law_draw T) (hr.mono (by decide)) (by rfl) T.g_law_draw T.k_law_draw T.b_law_draw .nil pass0 (pa_cons (pv 0) (pa_cons pe_int pa_nil)))) pa_nil)) (blkOk_by (own := [("k", 6)]) (N := n_law_names) (sc := defScope s_law_names) (by decide +kernel)) (fun _ _ _ _ _ => (pg_name (i := 6) (sc_law_names).nd rfl (Or.inl rfl))) (fun _ _ _ _ _ => pts_nil) (fun _ _ _ _ _ => (pe_call (ok_law_pickS T) (hr.mono (by decide)) (by rfl) T.g_law_pick T.k_law_pick T.b_law_pick .nil pass0 (pa_cons (pv 0) (pa_cons (pv 4) pa_nil)))))))
      (pss_cons (ps_par3 (i := 7) (j := 8) (l := 9) (by rfl) (sc_law_names).nd rfl rfl rfl (by decide) (by decide) (by decide) rfl rfl rfl (pa_cons (pe_call (ok_law_draw T) (hr.mono (by decide)) (by rfl) T.g_law_draw T.k_law_draw T.b_law_draw .nil pass0 (pa_cons (pv 0) (pa_cons (pe_callB call_lenZ (by rfl) T.z_len (by decide +kernel) (pa_cons (pv 5) pa_nil)) pa_nil))) (pa_cons (pe_call (ok_law_draw T) (hr.mono (by decide)) (by rfl) T.g_law_draw T.k_law_draw T.b_law_draw .nil pass0 (pa_cons (pv 0) (pa_cons pe_int pa_nil))) (pa_cons (pe_call (ok_law_draw T) (hr.mono (by decide)) (by rfl) T.g_law_draw T.k_law_draw T.b_law_draw .nil pass0 (pa_cons (pv 0) (pa_cons pe_int pa_nil))) pa_nil))) (by rfl))
      (pss_cons (ps_par (i := 10) (j := 11) (by rfl) (sc_law_names).nd rfl rfl (by decide) rfl rfl (pa_cons (pe_call (ok_law_pick T) (hr.mono (by decide)) (by rfl) T.g_law_pick T.k_law_pick T.b_law_pick .nil pass0 (pa_cons (pv 0) (pa_cons (pe_lst (pa_cons pe_int (pa_cons pe_int (pa_cons pe_int (pa_cons pe_int (pa_cons pe_int (pa_cons pe_int (pa_cons pe_int (pa_cons pe_int (pa_cons pe_int (pa_cons pe_int (pa_cons pe_int (pa_cons pe_int pa_nil))))))))))))) pa_nil))) (pa_cons (pe_lst pa_nil) pa_nil)) (by rfl))
      (pss_cons (ps_for PassesOwn.never rfl (pi_range1 rfl T.z_range (pa_cons (pv 1) pa_nil)) (pg_name (i := 6) (sc_law_names).nd rfl (Or.inl rfl))
      (pss_cons (ps_set (i := 12) (sc_law_names).nd rfl (Or.inl rfl) (pe_slice sl_str (pe_slice sl_str (pv 5) (po_some (pe_op op_add (pv 7) pe_int)) po_none) po_none (po_some (pe_ix ix_list (pe_lst (pa_cons pe_int (pa_cons (pe_op op_mod (pv 6) pe_int) pa_nil))) (pv 9) (fun _ _ => rfl)))))
      (pss_one (ps_expr (pe_bm PySem.F.plainAttrs_list PySem.F.slot_list_append PySem.F.type_list_append mt_append (pv 11) (pa_cons (pe_op op_addS (pe_op op_addS (pe_slice sl_str (pv 5) po_none (po_some (pv 7))) (pe_ix ix_str (pv 4) (pe_op op_mod (pe_op op_add (pv 8) (pe_op op_mul (pv 10) (pv 6))) pe_int) (fun _ _ => rfl))) (pv 12)) pa_nil))))))
      (Evl.pss_cut (ps_if (PW.pt (pw_and (pt_cmpR op_gt (pv 7) pe_int (nomark _)) (pw_and1 (pt_cmpR op_eq (pe_call (ok_law_draw T) (hr.mono (by decide)) (by rfl) T.g_law_draw T.k_law_draw T.b_law_draw .nil pass0 (pa_cons (pv 0) (pa_cons pe_int pa_nil))) pe_int (nomark _)))))
      (pss_one (ps_asg (pe_slice sl_str (pv 5) po_none (po_some (pv 7))) (pg_sub (pv 11) (pe_call (ok_law_draw T) (hr.mono (by decide)) (by rfl) T.g_law_draw T.k_law_draw T.b_law_draw .nil pass0 (pa_cons (pv 0) (pa_cons (pv 1) pa_nil))) set_list)))
      pss_nil)
      (pss_one (ps_ret (pv 11)))))))))), ?_⟩
    walk_at "go"
    refine ⟨p, c, 7, n, rfl, hP, by omega, by decide, by decide, fun d H1 hd0 hd1 s1 hP1 => ?_⟩
    walk_at "xs"
    refine ite2 (fun h7 => ?_) (fun h7 => ?_)
    · walk_at "xs"
      refine s_no fun w H2 hw sm2 e2 => ?_
      have hwp := hP1.neN hw
      walk_at "xs"
      refine ⟨p, c, 18, n + 1, rfl, by walk_at "pn", by omega, by decide, by decide, fun t H3 ht0 ht1 s3 hP3 => ?_⟩
      have e3 : H3 w = some (.lst (words1.map V.str)) := s3.look hwp e2
      walk_at "xs"
      refine s_no fun w2 H4 hw2 sm4 e4 => ?_
      refine s_cat (xs := words1.map V.str) (zs := words2.map V.str) (by walk_at "hp") e4 (by decide) ?_
      refine s_no fun w3 H5 hw3 sm5 e5 => ?_
      walk_at "xs"
      refine s_rep (k := 2) e5 (by decide) (by decide) (by decide) ?_
      refine s_no fun w4 H6 hw4 sm6 e6 => ?_
      walk_at "xs"
      refine s_no fun w5 H7 hw5 sm7 e7 => ?_
      walk_at "xs"
      refine s_no fun w6 H8 hw6 sm8 e8 => ?_
      have e : (List.replicate (2 : Int).toNat (words1.map V.str ++ words2.map V.str)).flatten = ((words1 ++ words2) ++ (words1 ++ words2)).map V.str := rfl
      rw [cutV_to (by omega), cutV_from (by omega), e, ← List.map_drop, ← List.map_take] at e8
      have f3 : H3 w6 = none := by walk_at "fr"
      have hwp6 := hP3.neN f3
      refine k w6 _ H8 ?_ e8 ?_ ?_ (by walk_at "sb") (Pen.mono (by walk_at "pn") (by omega : n + 1 + 1 ≤ n + 20))
      · walk_at "fr"
      · have : (words1 ++ words2).length = 18 := by decide
        rw [List.length_take, List.length_drop, List.length_append, this]
        omega
      · intro z hz
        have h1 := List.mem_of_mem_drop (List.mem_of_mem_take hz)
        rw [List.mem_append] at h1
        rcases h1 with h1 | h1 <;> exact words_ok z h1
    · walk_at "xs"
      refine ⟨p, c, 8, n + 1, rfl, hP1, by omega, by decide, by decide, fun t H2 ht0 ht1 s2 hP2 => ?_⟩
      walk_at "xs"
      refine s_lcRI (fun D k acc H' => ∃ ys : List Str, acc = ys.map V.str ∧ (∀ z ∈ ys, z.length = 1 ∧ Lt z) ∧ Sb p H2 H' ∧ Pen H' p c (n + 2 + k)) (by omega) (by omega) ?_ ?_ ?_
      · intro D H3 hD sm e
        exact ⟨[], rfl, by simp, by walk_at "sb", hP2.same sm⟩
      · rintro D k acc H3 hD hk hl hA ⟨ys, rfl, h1, s3, hP3⟩
        walk_at "xs"
        refine ⟨p, c, _, n + 2 + k, rfl, hP3, by omega, ?_, ?_, fun x H4 hx s4 hP4 => ?_⟩
        · rw [letters_len]; decide
        · rw [letters_len]; decide
        · have hDp := hP2.neN hD
          refine s_acc (by walk_at "hp") hl (by omega) fun H5 s5 e5 => ?_
          refine ⟨ys ++ [⟨#[x]⟩], by simp, ?_, by walk_at "sb", hP4.sb s5 hDp (hP2.neC hD)⟩
          intro z hz
          rw [List.mem_append, List.mem_singleton] at hz
          rcases hz with hz | rfl
          · exact h1 z hz
          · refine ⟨rfl, fun y hy => ?_⟩
            have : y = x := by simpa using hy
            subst this
            exact letters_ok y hx
      · rintro D acc H3 hD hl hA ⟨ys, rfl, h1, s3, hP3⟩
        have hDp := hP2.neN hD
        have hyl : ys.length = (1 + t).toNat := by simpa using hl
        obtain ⟨b1, b2⟩ := join_ones h1
        walk_at "xs"
        refine s_join hA ?_ ?_
        · rw [sum_ones h1]
          have : (Str.ofString "").length = 0 := by decide +kernel
          rw [this]
          omega
        generalize Txt.join (Str.ofString "") ys = base at b1 b2
        have bsz : base.length ≤ sizeLine := by rw [sizeLine_eq]; omega
        walk_at "xs"
        refine ⟨p, c, _, _, rfl, hP3, by omega, by omega, by omega, fun at_ H4 ha0 ha1 s4 hP4 => ?_⟩
        walk_at "xs"
        refine ⟨p, c, _, _, rfl, hP4, by omega, by omega, by omega, fun first H5 hf0 hf1 s5 hP5 => ?_⟩
        walk_at "xs"
        refine ⟨p, c, _, _, rfl, hP5, by omega, by omega, by omega, fun cut H6 hc0 hc1 s6 hP6 => ?_⟩
        walk_at "xs"
        refine s_no fun w H7 hw sm7 e7 => ?_
        walk_at "xs"
        have hwp := hP6.neN hw
        refine ⟨p, c, w, _, _, rfl, by walk_at "pn", by omega, e7, by decide, by decide, fun v H8 hv s8 hP8 => ?_⟩
        obtain ⟨st, rfl, st0, st1⟩ : ∃ st : Int, v = .int st ∧ 0 ≤ st ∧ st ≤ 25 := by
          have z : v = .int 1 ∨ v = .int 3 ∨ v = .int 5 ∨ v = .int 7 ∨ v = .int 9 ∨ v = .int 11 ∨ v = .int 15 ∨ v = .int 17 ∨ v = .int 19 ∨ v = .int 21 ∨ v = .int 23 ∨ v = .int 25 := by simpa using hv
          rcases z with rfl | rfl | rfl | rfl | rfl | rfl | rfl | rfl | rfl | rfl | rfl | rfl <;> exact ⟨_, rfl, by decide, by decide⟩
        walk_at "xs"
        refine s_no fun q H9 hq sm9 e9 => ?_
        have hqp := hP8.neN hq
        have hqc := hP8.neC hq
        have hP9 := hP8.same sm9
        have hH1 : H1 q = none := by
          have a1 : H7 q = none := s8.free hqp hq
          have a2 : H6 q = none := Same.free' sm7 a1
          exact s2.free hqp (s3.free hqp (s4.free hqp (s5.free hqp (s6.free hqp a2))))
        have hHq : H q = none := s1.free hqp hH1
        have sH9 : Sb p H H9 := by walk_at "sb"
        clear s8 sm9 sm7 s6 s5 s4 s3 s2 e7 hw hwp hA hD hDp
        walk_at "xs"
        have b1' : base.length ≤ 8 := by omega
        refine s_forRI (fun i σ H' => ∃ (kv tv : Option V) (zs : List Str), σ = [some (.ref p), some (.int m), none, none, some (.str "abcdefghijklmnopqrstuvwxyz"), some (.str base), kv, some (.int at_), some (.int first), some (.int cut), some (.int st), some (.ref q), tv] ∧
          H' q = some (.lst (zs.map V.str)) ∧ zs.length = i ∧ (∀ z ∈ zs, Nm z) ∧ Sb q H9 H') (by omega) (by omega) ⟨none, none, [], rfl, e9, rfl, by simp, Sb.refl _ _⟩ ?_ ?_
        · rintro i σ H10 hi ⟨kv, tv, zs, rfl, hz, hl, hN, s10⟩
          walk_at "xs"
          refine s_slS bsz ?_
          walk_at "xs"
          refine s_no fun w2 H11 hw2 sm11 e11 => ?_
          obtain ⟨x, ex, hx⟩ := at_two (a := 8) (b := (i : Int) % 3) hc0 hc1
          have hx0 : 0 ≤ x := by rcases hx with rfl | rfl <;> omega
          walk_at "xs"
          have l1 : (cutS base (some (at_ + 1)) none).length = base.length - (at_ + 1).toNat := cutS_from (by omega) (by omega)
          have l2 := cutS_length (cutS base (some (at_ + 1)) none) none (some x)
          refine s_slS (small16 (by omega)) ?_
          have t2 : Lt (cutS (cutS base (some (at_ + 1)) none) none (some x)) := (b2.cut _ _).cut _ _
          generalize cutS (cutS base (some (at_ + 1)) none) none (some x) = tail at l2 t2
          have hq11 : H11 q = some (.lst (zs.map V.str)) := by walk_at "hp"
          walk_at "xs"
          refine s_slS bsz ?_
          have l3 : (cutS base none (some at_)).length = at_.toNat := cutS_to ha0 (by omega)
          have t3 : Lt (cutS base none (some at_)) := b2.cut _ _
          generalize cutS base none (some at_) = hd at l3 t3
          have cm : CMul st (i : Int) := Or.inl ⟨by omega, by omega⟩
          obtain ⟨ch, hch, ech⟩ := at_in (xs := (Str.ofString "abcdefghijklmnopqrstuvwxyz").cps.toList) (i := (first + st * (i : Int)) % 26) (Int.emod_nonneg _ (by decide)) (by rw [lenL, letters_len]; exact Int.emod_lt_of_pos _ (by decide))
          have lsz : (Str.ofString "abcdefghijklmnopqrstuvwxyz").length ≤ sizeLine := small16 (by rw [letters_len]; decide)
          walk_at "xs"
          refine s_addS (small16 (by rw [len1]; omega)) ?_
          walk_at "xs"
          refine s_addS (small16 (by rw [len_app, len1]; omega)) ?_
          have hz9 : (zs.map V.str).length < sizeLine := by rw [List.length_map, sizeLine_eq]; omega
          walk_at "xs"
          refine s_mu fun H12 s12 e12 => ?_
          refine ⟨_, _, zs ++ [hd ++ ⟨#[ch]⟩ ++ tail], rfl, by rw [e12]; simp, by simp [hl], ?_, (s10.trans (Sb.of_same sm11)).trans s12⟩
          intro z hzz
          rw [List.mem_append, List.mem_singleton] at hzz
          rcases hzz with hzz | rfl
          · exact hN z hzz
          · refine ⟨by rw [len_app, len_app, len1]; omega, by rw [len_app, len_app, len1]; omega, (t3.app (Lt.one (letters_ok ch hch))).app t2⟩
        · rintro σ H10 ⟨kv, tv, zs, rfl, hz, hl, hN, s10⟩
          have hP10 := hP9.sb s10 hqp hqc
          have sH10 : Sb p H H10 := sH9.mut s10 hHq
          refine s_cut (fun σ' H' => ∃ (ys : List Str), σ' = [some (.ref p), some (.int m), none, none, some (.str "abcdefghijklmnopqrstuvwxyz"), some (.str base), kv, some (.int at_), some (.int first), some (.int cut), some (.int st), some (.ref q), tv] ∧
            H' q = some (.lst (ys.map V.str)) ∧ ys.length = m.toNat ∧ (∀ z ∈ ys, Nm z) ∧ Sb p H H' ∧ Pen H' p c (n + 20)) ?_ ?_
          · walk_at "xs"
            refine ite2 (fun h8 => ?_) (fun h8 => ?_)
            · walk_at "xs"
              refine ⟨p, c, _, _, rfl, hP10, by omega, by decide, by decide, fun d2 H11 _ _ s11 hP11 => ?_⟩
              walk_at "xs"
              have z11 : H11 q = some (.lst (zs.map V.str)) := s11.look hqp hz
              have sH11 : Sb p H H11 := sH10.trans s11
              refine ite2 (fun h9 => ?_) (fun h9 => ?_)
              · walk_at "xs"
                refine s_slS bsz ?_
                walk_at "xs"
                refine ⟨p, c, _, _, rfl, hP11, by omega, by omega, by omega, fun d3 H12 d30 d31 s12 hP12 => ?_⟩
                have l3 : (cutS base none (some at_)).length = at_.toNat := cutS_to ha0 (by omega)
                have hpos : 0 < at_ := of_decide_eq_true h8
                refine s_setL (s12.look hqp z11) (ixN_of d30 (by rw [List.length_map]; omega)) ?_
                refine s_mu fun H13 s13 e13 => ?_
                refine ⟨zs.set d3.toNat (cutS base none (some at_)), rfl, by rw [e13, List.map_set], by rw [List.length_set]; exact hl, ?_, (sH11.trans s12).mut s13 hHq, (hP12.sb s13 hqp hqc).mono (by omega)⟩
                intro z hzz
                rcases List.mem_or_eq_of_mem_set hzz with h | rfl
                · exact hN z h
                · exact ⟨by omega, by omega, b2.cut _ _⟩
              · walk_at "xs"
                exact ⟨zs, rfl, z11, hl, hN, sH11, hP11.mono (by omega)⟩
            · walk_at "xs"
              exact ⟨zs, rfl, hz, hl, hN, sH10, hP10.mono (by omega)⟩
          · rintro σ' H11 ⟨ys, rfl, g1, g2, g3, g4, g5⟩
            walk_at "xs"
            exact k q ys H11 hHq g1 g2 g3 g4 g5
end LH
end
section
set_option maxRecDepth 100000
set_option maxHeartbeats 4000000
namespace LH
open PySem L2
local macro_rules | `(tactic| walk_at "ne") => `(tactic| first
  | assumption
  | (refine' Ne.symm ?hz; (case hz => assumption)))
local macro_rules | `(tactic| walk_at "hp") => `(tactic| first
  | assumption
  | exact upd_same
  | (refine' Same.look (by assumption) ?hz; (case hz => walk_at "hp"))
  | (refine' Sb.look (by assumption) ?hn ?hz; (case hn => walk_at "ne"); (case hz => walk_at "hp"))
  | (refine' upd_new ?hz (by assumption); (case hz => walk_at "hp"))
  | (refine' upd_keep ?hz (by assumption); (case hz => walk_at "hp"))
  | (refine' upd_keep' ?hz (by assumption); (case hz => walk_at "hp")))
local macro_rules | `(tactic| walk_at "sb") => `(tactic| first
  | assumption
  | exact Sb.refl _ _
  | exact Same.refl _
  | (refine' Sb.of_same ?hz; (case hz => assumption))
  | (refine' Sb.trans ?hz (Sb.of_same (by assumption)); (case hz => walk_at "sb"))
  | (refine' Sb.trans ?hz (by assumption); (case hz => walk_at "sb"))
  | (refine' Sb.mut ?hz (by assumption) ?hn; (case hz => walk_at "sb"); (case hn => walk_at "fr"))
  | (refine' Same.trans ?hz (by assumption); (case hz => walk_at "sb"))
  | (refine' Same.mut ?hz (by assumption) ?hn; (case hz => walk_at "sb"); (case hn => walk_at "fr")))
local macro_rules | `(tactic| walk_at "fr") => `(tactic| first
  | assumption
  | (refine' Same.free' (by assumption) ?hz; (case hz => walk_at "fr"))
  | (refine' Sb.free (by assumption) ?hn ?hz; (case hz => walk_at "fr"); (case hn => walk_at "ne")))
local macro_rules | `(tactic| walk_at "pn") => `(tactic| first
  | assumption
  | (refine' Pen.same ?hz (by assumption); (case hz => walk_at "pn"))
  | (refine' Pen.sb ?hz (by assumption) ?hn ?hm; (case hz => walk_at "pn"); (case hn => walk_at "ne"); (case hm => walk_at "ne")))
local macro_rules | `(tactic| walk_at "sq") => `(tactic| first
  | assumption
  | (refine' SqL.of ?hz; (case hz => walk_at "hp"))
  | (refine' SqT.of ?hz; (case hz => walk_at "hp"))
  | (refine' Or.inl (SqL.of ?hz); (case hz => walk_at "hp"))
  | (refine' Or.inr (SqT.of ?hz); (case hz => walk_at "hp"))
  | (refine' Or.inl ?hz; (case hz => assumption))
  | (refine' Or.inr ?hz; (case hz => assumption)))
local macro_rules | `(tactic| walk_at "ar") => `(tactic| first
  | assumption
  | decide
  | omega
  | exact ⟨by omega, by omega⟩
  | exact Or.inl ⟨by omega, by omega⟩
  | exact Or.inr ⟨by omega, by omega⟩
  | exact ⟨by decide, by decide, by decide⟩)
local macro_rules | `(tactic| walk_at "lk") => `(tactic| first
  | assumption
  | exact sortF_rooms _ _
  | exact sortF_doors _ _
  | exact streetF_left _ _ _ _
  | exact streetF_first _ _ _ _
  | exact streetF_odd _ _ _ _
  | exact streetF_right _ _ _ _
  | exact sortF_no _ _ (by decide +kernel) (by decide +kernel)
  | exact streetF_no _ _ _ _ (by decide +kernel) (by decide +kernel) (by decide +kernel) (by decide +kernel))
local macro_rules | `(tactic| walk_at "x1") => `(tactic| first
  | (with_reducible refine' s_seq ?_)
  | ((with_reducible refine' s_var ?hv ?_); (case hv => exact rfl))
  | (with_reducible refine' s_c ?_)
  | (with_reducible refine' s_op ?_)
  | (with_reducible refine' s_asg ?_)
  | (with_reducible refine' s_ret ?_)
  | (with_reducible refine' s_I0 ?_)
  | ((with_reducible refine' s_I ?hc ?_); (case hc => walk_at "ar"))
  | (with_reducible refine' s_test ?_)
  | (with_reducible refine' s_bl ?_)
  | (with_reducible refine' s_ifS ?_)
  | (with_reducible refine' s_next ?_)
  | (with_reducible refine' s_dget ?_)
  | (with_reducible refine' s_cons ?_)
  | (with_reducible refine' s_nil ?_)
  | (with_reducible refine' s_CB ?_)
  | (with_reducible refine' s_lst ?_)
  | (with_reducible refine' s_tup ?_)
  | ((with_reducible refine' s_mkL ?hl ?_); (case hl => first | exact (Nat.le_of_ble_eq_true rfl) | omega))
  | ((with_reducible refine' s_mkT ?hl ?_); (case hl => first | exact (Nat.le_of_ble_eq_true rfl) | omega))
  | (with_reducible refine' s_drop ?_)
  | (with_reducible refine' s_and ?_)
  | (with_reducible refine' s_or ?_)
  | (with_reducible refine' s_not ?_)
  | (with_reducible refine' s_if ?_)
  | (with_reducible refine' s_un ?_)
  | (with_reducible refine' s_rU ?_)
  | (with_reducible refine' s_B ?_)
  | (with_reducible refine' s_yes ?_)
  | (with_reducible refine' s_andV ?_)
  | (with_reducible refine' s_orV ?_)
  | (with_reducible refine' s_notV ?_)
  | (with_reducible refine' s_chain ?_)
  | (with_reducible refine' s_disp ?_)
  | (with_reducible refine' s_pcons ?_)
  | (with_reducible refine' s_pnil ?_)
  | (with_reducible refine' s_dput ?_)
  | (with_reducible refine' s_sl ?_)
  | (with_reducible refine' s_noPart ?_)
  | (with_reducible refine' s_part ?_)
  | (with_reducible refine' s_pt ?_)
  | (with_reducible refine' s_bm ?_)
  | (with_reducible refine' s_bm0 ?_)
  | (with_reducible refine' s_fld ?_)
  | (with_reducible refine' s_fldS ?_)
  | (with_reducible refine' s_par ?_)
  | (with_reducible refine' s_pair ?_)
  | (with_reducible refine' s_par3 ?_)
  | (with_reducible refine' s_tri ?_)
  | (with_reducible refine' s_asgT ?_)
  | (with_reducible refine' s_gName ?_)
  | (with_reducible refine' s_gNil ?_)
  | (with_reducible refine' s_gCons ?_)
  | (with_reducible refine' s_retN ?_)
  | (with_reducible refine' s_call1 ?_)
  | (with_reducible refine' s_eqI ?_)
  | (with_reducible refine' s_neI ?_)
  | (with_reducible refine' s_eqS ?_)
  | (with_reducible refine' s_neS ?_)
  | (with_reducible refine' s_abs ?_)
  | (with_reducible refine' s_strS ?_)
  | (with_reducible refine' s_wt ?_)
  | (with_reducible refine' s_forR ?_)
  | (with_reducible refine' s_forL ?_)
  | (with_reducible refine' s_lcR ?_)
  | (with_reducible refine' s_lcL ?_)
  | (with_reducible refine' s_lcT ?_)
  | (with_reducible refine' s_m1 ?_)
  | (with_reducible refine' s_str ?_)
  | (with_reducible refine' s_gSub ?_)
  | (with_reducible refine' s_dnew ?_)
  | (with_reducible refine' s_lcS ?_)
  | (with_reducible refine' s_make ?_)
  | (with_reducible refine' s_intI ?_)
  | ((with_reducible refine' s_gTup ?hs ?hl ?_); (case hs => walk_at "sq"); (case hl => exact rfl))
  | (with_reducible refine' s_itT ?_)
  | (with_reducible refine' s_itF ?_)
  | ((with_reducible refine' s_dgetS ?hp ?he ?_); (case hp => walk_at "hp"); (case he => first | exact penK_rest _ _ _ | exact penK_turn _ _ _ | exact penK_cells _ _ _ | exact sortK_rooms _ _ | exact sortK_doors _ _ | exact streetK_left _ _ _ _ | exact streetK_first _ _ _ _ | exact streetK_odd _ _ _ _ | exact streetK_right _ _ _ _ | assumption))
  | ((with_reducible refine' s_dputS ?hp ?he ?hl ?_); (case hp => walk_at "hp"); (case he => first | exact put_turn _ _ _ _ | exact put_rest _ _ _ _ | exact rfl); (case hl => exact small1000 (Nat.le_of_ble_eq_true rfl)))
  | ((with_reducible refine' s_ixL ?hs ?he ?_); (case hs => walk_at "sq"); (case he => first | assumption | exact rfl))
  | ((with_reducible refine' s_ixT ?hs ?he ?_); (case hs => walk_at "sq"); (case he => first | assumption | exact rfl))
  | ((with_reducible refine' s_lenL ?hs ?_); (case hs => walk_at "sq"))
  | ((with_reducible refine' s_lenZ ?hs ?_); (case hs => assumption))
  | ((with_reducible refine' s_ixS ?hs ?he ?_); (case hs => assumption); (case he => first | assumption | exact rfl))
  | ((with_reducible refine' s_lstOf ?hs ?_); (case hs => walk_at "sq"))
  | ((with_reducible refine' s_slL ?hs ?_); (case hs => walk_at "sq"))
  | ((with_reducible refine' s_tyL ?hs ?_); (case hs => walk_at "sq"))
  | ((with_reducible refine' s_append ?hp ?hl ?_); (case hp => walk_at "hp"); (case hl => walk_at "ar"))
  | ((with_reducible refine' s_neL ?ha ?hb ?h0 ?_); (case ha => walk_at "sq"); (case hb => walk_at "sq"); (case h0 => first | exact Or.inr rfl | exact Or.inl rfl))
  | ((with_reducible refine' s_eqL ?ha ?hb ?h0 ?_); (case ha => walk_at "sq"); (case hb => walk_at "sq"); (case h0 => first | exact Or.inr rfl | exact Or.inl rfl))
  | ((with_reducible refine' s_clear ?hp ?_); (case hp => walk_at "hp"))
  | ((with_reducible refine' s_reverse ?hp ?_); (case hp => walk_at "hp"))
  | ((with_reducible refine' s_fldV ?hp ?hc ?hn ?he ?_); (case hp => walk_at "hp"); (case hc => assumption); (case hn => assumption); (case he => walk_at "lk"))
  | (with_reducible refine' s_methO ?_)
  | ((with_reducible refine' s_methV ?hp ?hn ?_); (case hp => walk_at "hp"); (case hn => walk_at "lk"))
  )
local macro_rules | `(tactic| walk_at "xs") => `(tactic| repeat (walk_at "x1"))
local macro_rules | `(tactic| walk_at "go") => `(tactic| ((try dsimp only [cxOf, Cx.nox, Cx.wish]); walk_at "xs"))
local macro_rules | `(tactic| walk_at "xu") => `(tactic| repeat (first | walk_at "x1" | (with_reducible refine' s_muU ?_)))

def spPrice : Sp := fun vs H Q _ => ∃ (p c : Addr) (n : Nat), vs = [.ref p] ∧ Pen H p c n ∧ n + 4 < 2 ^ 62 ∧ ∀ (x : Int) H', 1 ≤ x → x ≤ 99 → Sb p H H' → Pen H' p c (n + 4) → Q (.int x) H'
theorem ok_law_price {P : Program} {w : World} {K : PySem.W.Frag} {mg : Str → Option Value} {base : Heap} (T : Tx K mg) : FnOk P w K mg base CX0 2 T.a_law_price T.fd_law_price ["pen"] (spPrice) := by
  refine T.F_law_price.ok sc_law_price (fun vs H Q E h => ?_) (fun cdv A outer s H vs Q E hr h => ?_)
  · obtain ⟨p, c, n, rfl, _⟩ := h
    rfl
  · obtain ⟨p, c, n, rfl, hP, hn, k⟩ := h
    refine ⟨_, (pss_one (ps_ret (pe_ix ix_list (pe_lst (pa_cons pe_int (pa_cons (pe_op op_add pe_int (pe_call (ok_law_draw T) (hr.mono (by decide)) (by rfl) T.g_law_draw T.k_law_draw T.b_law_draw .nil pass0 (pa_cons (pv 0) (pa_cons pe_int pa_nil)))) (pa_cons (pe_op op_add pe_int (pe_call (ok_law_draw T) (hr.mono (by decide)) (by rfl) T.g_law_draw T.k_law_draw T.b_law_draw .nil pass0 (pa_cons (pv 0) (pa_cons pe_int pa_nil)))) (pa_cons (pe_op op_add pe_int (pe_call (ok_law_draw T) (hr.mono (by decide)) (by rfl) T.g_law_draw T.k_law_draw T.b_law_draw .nil pass0 (pa_cons (pv 0) (pa_cons pe_int pa_nil)))) (pa_cons pe_int pa_nil)))))) (pe_call (ok_law_draw T) (hr.mono (by decide)) (by rfl) T.g_law_draw T.k_law_draw T.b_law_draw .nil pass0 (pa_cons (pv 0) (pa_cons pe_int pa_nil))) (fun _ _ => rfl)))), ?_⟩
    walk_at "go"
    refine ⟨p, c, 3, n, rfl, hP, by omega, by decide, by decide, fun d1 H1 hd10 hd11 s1 hP1 => ?_⟩
    walk_at "xs"
    refine ⟨p, c, 9, n + 1, rfl, hP1, by omega, by decide, by decide, fun d2 H2 hd20 hd21 s2 hP2 => ?_⟩
    walk_at "xs"
    refine ⟨p, c, 99, n + 2, rfl, hP2, by omega, by decide, by decide, fun d3 H3 hd30 hd31 s3 hP3 => ?_⟩
    walk_at "xs"
    refine s_no fun w H4 hw sm4 e4 => ?_
    walk_at "xs"
    refine ⟨p, c, 5, n + 3, rfl, hP3.same sm4, by omega, by decide, by decide, fun d4 H5 hd40 hd41 s5 hP5 => ?_⟩
    have e5 := s5.look (hP3.neN hw) e4
    obtain ⟨v, hv, e⟩ := at_in (xs := [V.int 1, .int (1 + d1), .int (1 + d2), .int (1 + d3), .int 99]) hd40 hd41
    obtain ⟨x, rfl, hx⟩ : ∃ x : Int, v = .int x ∧ 1 ≤ x ∧ x ≤ 99 := by
      have z : v = .int 1 ∨ v = .int (1 + d1) ∨ v = .int (1 + d2) ∨ v = .int (1 + d3) ∨ v = .int 99 := by simpa using hv
      rcases z with rfl | rfl | rfl | rfl | rfl <;> exact ⟨_, rfl, by omega, by omega⟩
    walk_at "xs"
    exact k x H5 hx.1 hx.2 (by walk_at "sb") hP5
def spSort : Sp := fun vs H Q _ => ∃ (p c r g : Addr) (rs gs : List Str) (m : Int) (n : Nat), vs = [.ref p, .ref r, .ref g, .int m] ∧ Pen H p c n ∧ n + 200 < 2 ^ 62 ∧ H r = some (.lst (rs.map V.str)) ∧ H g = some (.lst (gs.map V.str)) ∧
  1 ≤ rs.length ∧ rs.length ≤ 18 ∧ 1 ≤ gs.length ∧ gs.length ≤ 18 ∧ (∀ z ∈ rs, Nm z) ∧ (∀ z ∈ gs, Nm z) ∧ 0 ≤ m ∧ m ≤ 12 ∧ ∀ (v : V) (S : SData) H', SOk S → S.rooms.Perm rs → SortAt (fun q => H q ≠ none) H' v S → Sb p H H' → Pen H' p c (n + 200) → Q v H'
theorem ok_law_sort {P : Program} {w : World} {K : PySem.W.Frag} {mg : Str → Option Value} {base : Heap} (T : Tx K mg) : FnOk P w K mg base CX0 4 T.a_law_sort T.fd_law_sort ["pen", "rooms", "goals", "doors"] (spSort) := by
  refine T.F_law_sort.ok sc_law_sort (fun vs H Q E h => ?_) (fun cdv A outer s H vs Q E hr h => ?_)
  · obtain ⟨p, c, r, g, rs, gs, m, n, rfl, _⟩ := h
    rfl
  · obtain ⟨p, c, r, g, rs, gs, m, n, rfl, hP, hn, hr0, hg0, r1, r2, g1, g2, hrn, hgn, hm, hm2, k⟩ := h
    have hu := hu_of hr
    refine ⟨_, (pss_cons (ps_asg (pe_tup (pa_cons (pe_call (ok_law_names T) (hr.mono (by decide)) (by rfl) T.g_law_names T.k_law_names T.b_law_names .nil pass0 (pa_cons (pv 0) (pa_cons pe_int pa_nil))) (pa_cons pe_dnewK pa_nil))) (pg_tup rfl (pgs_cons (pg_name (i := 4) (sc_law_sort).nd rfl (Or.inl rfl)) (pgs_cons (pg_name (i := 5) (sc_law_sort).nd rfl (Or.inr rfl)) pgs_nil))))
      (pss_cons (ps_for PassesOwn.never rfl (pi_list (pe_slice sl_list (pv 4) po_none (po_some (pe_call (ok_law_draw T) (hr.mono (by decide)) (by rfl) T.g_law_draw T.k_law_draw T.b_law_draw .nil pass0 (pa_cons (pv 0) (pa_cons (pe_op op_add (pv 3) pe_int) pa_nil)))))) (pg_name (i := 6) (sc_law_sort).nd rfl (Or.inl rfl))
      (pss_cons (ps_par (i := 7) (j := 8) (by rfl) (sc_law_sort).nd rfl rfl (by decide) rfl rfl (pa_cons (pe_call (ok_law_pick T) (hr.mono (by decide)) (by rfl) T.g_law_pick T.k_law_pick T.b_law_pick .nil pass0 (pa_cons (pv 0) (pa_cons (pv 1) pa_nil))) (pa_cons (pe_op op_sub (pe_call (ok_law_draw T) (hr.mono (by decide)) (by rfl) T.g_law_draw T.k_law_draw T.b_law_draw .nil pass0 (pa_cons (pv 0) (pa_cons pe_int pa_nil))) pe_int) pa_nil)) (by rfl))
      (pss_cons (ps_set (i := 9) (sc_law_sort).nd rfl (Or.inl rfl) (pe_call (ok_law_pick T) (hr.mono (by decide)) (by rfl) T.g_law_pick T.k_law_pick T.b_law_pick .nil pass0 (pa_cons (pv 0) (pa_cons (pe_lst (pa_cons (pe_call (ok_law_pick T) (hr.mono (by decide)) (by rfl) T.g_law_pick T.k_law_pick T.b_law_pick .nil pass0 (pa_cons (pv 0) (pa_cons (pv 1) pa_nil))) (pa_cons (pe_call (ok_law_pick T) (hr.mono (by decide)) (by rfl) T.g_law_pick T.k_law_pick T.b_law_pick .nil pass0 (pa_cons (pv 0) (pa_cons (pv 1) pa_nil))) (pa_cons (pe_call (ok_law_pick T) (hr.mono (by decide)) (by rfl) T.g_law_pick T.k_law_pick T.b_law_pick .nil pass0 (pa_cons (pv 0) (pa_cons (pv 2) pa_nil))) pa_nil)))) pa_nil))))
      (pss_one (ps_dput hu (pv 5) (pv 6) (pe_tup (pa_cons (pv 6) (pa_cons (pv 7) (pa_cons (pv 8) (pa_cons (pv 9) (pa_cons (pe_call (ok_law_price T) (hr.mono (by decide)) (by rfl) T.g_law_price T.k_law_price T.b_law_price .nil pass0 (pa_cons (pv 0) pa_nil)) pa_nil)))))) rfl)))))
      (pss_one (ps_ret (pe_disp (pps_cons pe_str (pe_callB cr_sortedS (by rfl) T.z_sorted (by decide +kernel) (pa_cons (pv 1) pa_nil)) (pps_cons pe_str (pe_lc (own := [("name", 6)]) rfl (sc_law_sort).nd (pi_list (pe_callB (call_sortedK rfl) (by rfl) T.z_sorted (by decide +kernel) (pa_cons (pv 5) pa_nil))) (blkOk_by (own := [("name", 6)]) (N := n_law_sort) (sc := defScope s_law_sort) (by decide +kernel)) (fun _ _ _ _ _ => (pg_name (i := 6) (sc_law_sort).nd rfl (Or.inl rfl))) (fun _ _ _ _ _ => pts_nil) (fun _ _ _ _ _ => (pe_dget hu (pv 5) (pv 6) (fun _ _ => rfl)))) pps_nil)) (by rfl) (by rfl) (fun z => by cases z) (by decide)))))), ?_⟩
    walk_at "go"
    refine ⟨p, c, 18, n, rfl, hP, by omega, by decide, by decide, fun q zs H1 hq e1 hl hN s1 hP1 => ?_⟩
    walk_at "xs"
    refine s_no fun f H2 hf sm2 e2 => ?_
    walk_at "xs"
    refine s_no fun tp H3 htp sm3 e3 => ?_
    walk_at "xs"
    have hP3 : Pen H3 p c (n + 20) := by walk_at "pn"
    have e1' : H3 q = some (.lst (zs.map V.str)) := by walk_at "hp"
    have e2' : H3 f = some (.dK []) := by walk_at "hp"
    have hfp := hP1.neN hf
    have hfc := hP1.neC hf
    have hff : H f = none := s1.free hfp hf
    have hqp : q ≠ p := hP.neN hq
    have s13 : Sb p H H3 := by walk_at "sb"
    refine ⟨p, c, m + 1, n + 20, rfl, hP3, by omega, by omega, by omega, fun d H4 hd0 hd1 s4 hP4 => ?_⟩
    have e1'' : H4 q = some (.lst (zs.map V.str)) := s4.look hqp e1'
    have e2'' : H4 f = some (.dK []) := s4.look hfp e2'
    walk_at "xs"
    refine s_no fun sl H5 hsl sm5 e5 => ?_
    rw [cutV_to hd0, ← List.map_take] at e5
    have hslf : sl ≠ f := (ne_of_none e2'' hsl).symm
    have hslp := hP4.neN hsl
    have hP5 := hP4.same sm5
    have e25 := sm5 _ _ e2''
    have s5 : Sb p H H5 := by walk_at "sb"
    have hrp : r ≠ p := hP.ne hr0
    have hgp : g ≠ p := hP.ne hg0
    clear e1'' e2'' e1' e2' hP1 hP3 hP4 e1 e2 e3 sm2 sm3 sm5 s1 s4 s13 htp
    have tl : (zs.take d.toNat).length ≤ 12 := by rw [List.length_take]; omega
    have tN : ∀ z ∈ zs.take d.toNat, Nm z := fun z hz => hN z (List.mem_of_mem_take hz)
    generalize zs.take d.toNat = ws at e5 tl tN
    refine s_forLI (xs := ws.map V.str) (fun i σ H' => ∃ (o6 o7 o8 o9 : Option V) (kvs : List (Key × V)), σ = [some (.ref p), some (.ref r), some (.ref g), some (.int m), some (.ref q), some (.ref f), o6, o7, o8, o9] ∧
      H' f = some (.dK kvs) ∧ kvs.length ≤ i ∧ (kvs.map (·.1)).Nodup ∧ (∀ x ∈ kvs, ∃ d : Door, x.1 = .inr d.name ∧ DoorAt H' x.2 d ∧ DOk rs d) ∧ H' sl = some (.lst (ws.map V.str)) ∧ Sb p H H' ∧ Pen H' p c (n + 21 + 10 * i)) (SqL.of e5)
      ⟨none, none, none, none, [], rfl, e25, Nat.le_refl _, List.nodup_nil, by simp, e5, s5, hP5⟩ ?_ ?_ ?_
    · rintro i σ H' _ ⟨_, _, _, _, _, _, _, _, _, _, z, _⟩
      exact SqL.of z
    · rintro i x σ H6 hi ⟨o6, o7, o8, o9, kvs, rfl, f1, f2, f3, f4, f5, f6, f7⟩
      obtain ⟨nm, hnm, rfl⟩ : ∃ nm, nm ∈ ws ∧ x = .str nm := by
        obtain ⟨y, hy, e⟩ := List.mem_map.mp (List.mem_of_getElem? hi)
        exact ⟨y, hy, e.symm⟩
      have hi12 : i < ws.length := by
        have := (List.getElem?_eq_some_iff.mp hi).1
        simpa using this
      have hrl : 0 < (rs.map V.str).length := by rw [List.length_map]; omega
      have hgl : 0 < (gs.map V.str).length := by rw [List.length_map]; omega
      have hrl2 : (rs.map V.str).length < 1073741824 := by rw [List.length_map]; omega
      have hgl2 : (gs.map V.str).length < 1073741824 := by rw [List.length_map]; omega
      walk_at "xs"
      refine ⟨p, c, r, _, _, rfl, f7, by omega, f6.look hrp hr0, hrl, hrl2, fun v1 H7 hv1 s7 hP7 => ?_⟩
      obtain ⟨rm, hrm, rfl⟩ := List.mem_map.mp hv1
      have s07 : Sb p H H7 := f6.trans s7
      walk_at "xs"
      refine ⟨p, c, 3, _, rfl, hP7, by omega, by decide, by decide, fun mv H8 hmv0 hmv1 s8 hP8 => ?_⟩
      have s08 : Sb p H H8 := s07.trans s8
      walk_at "xs"
      refine ⟨p, c, r, _, _, rfl, hP8, by omega, s08.look hrp hr0, hrl, hrl2, fun v2 H9 hv2 s9 hP9 => ?_⟩
      obtain ⟨ga, hga, rfl⟩ := List.mem_map.mp hv2
      have s09 : Sb p H H9 := s08.trans s9
      walk_at "xs"
      refine ⟨p, c, r, _, _, rfl, hP9, by omega, s09.look hrp hr0, hrl, hrl2, fun v3 H10 hv3 s10 hP10 => ?_⟩
      obtain ⟨gb, hgb, rfl⟩ := List.mem_map.mp hv3
      have s010 : Sb p H H10 := s09.trans s10
      walk_at "xs"
      refine ⟨p, c, g, _, _, rfl, hP10, by omega, s010.look hgp hg0, hgl, hgl2, fun v4 H11 hv4 s11 hP11 => ?_⟩
      obtain ⟨gc, hgc, rfl⟩ := List.mem_map.mp hv4
      have s011 : Sb p H H11 := s010.trans s11
      walk_at "xs"
      refine s_no fun u H12 hu12 sm12 e12 => ?_
      walk_at "xs"
      refine ⟨p, c, u, _, _, rfl, hP11.same sm12, by omega, e12, by show 0 < 3; decide, by show 3 < 1073741824; decide, fun v5 H13 hv5 s13 hP13 => ?_⟩
      have s013 : Sb p H H13 := (s011.trans (Sb.of_same sm12)).trans s13
      obtain ⟨gl, hgl', rfl⟩ : ∃ gl : Str, Nm gl ∧ v5 = .str gl := by
        have z : v5 = .str ga ∨ v5 = .str gb ∨ v5 = .str gc := by simpa using hv5
        rcases z with rfl | rfl | rfl
        · exact ⟨_, hrn _ hga, rfl⟩
        · exact ⟨_, hrn _ hgb, rfl⟩
        · exact ⟨_, hgn _ hgc, rfl⟩
      walk_at "xs"
      refine ⟨p, c, _, rfl, hP13, by omega, fun pr H14 hpr0 hpr1 s14 hP14 => ?_⟩
      walk_at "xs"
      refine s_no fun tt H15 htt sm15 e15 => ?_
      walk_at "xs"
      have g6 : Sb p H6 H15 := (((((((s7.trans s8).trans s9).trans s10).trans s11).trans (Sb.of_same sm12)).trans s13).trans s14).trans (Sb.of_same sm15)
      have f15 : H15 f = some (.dK kvs) := g6.look hfp f1
      refine s_dputS f15 rfl (by rw [sizeLine_eq]; omega) ?_
      refine s_mu fun H16 s16 e16 => ?_
      have noT : ∀ xs, H15 f ≠ some (.tup xs) := by intro xs z; rw [f15] at z; cases z
      have pT := f7.noT
      refine ⟨_, _, _, _, putK kvs (.inr nm) (.ref tt), rfl, e16, ?_, nodup_putK f3, ?_, ?_, ?_, ?_⟩
      · have := putK_le kvs (.inr nm) (.ref tt)
        omega
      · intro x hx
        rcases mem_putK hx with rfl | ⟨hx, _⟩
        · exact ⟨⟨nm, rm, mv - 1, gl, pr⟩, rfl, DoorAt.sb (d := ⟨nm, rm, mv - 1, gl, pr⟩) ⟨tt, rfl, e15⟩ s16 noT, tN _ hnm, hrm, ⟨by show -1 ≤ mv - 1; omega, by show mv - 1 ≤ 1; omega⟩, hgl', hpr0, hpr1⟩
        · obtain ⟨d, h1, h2, h3⟩ := f4 x hx
          exact ⟨d, h1, (h2.sb g6 pT).sb s16 noT, h3⟩
      · exact s16.look hslf (g6.look hslp f5)
      · exact (f6.trans g6).mut s16 hff
      · have hP15 : Pen H15 p c (n + 21 + 10 * (i + 1)) := (hP14.same sm15).mono (by omega)
        exact hP15.sb s16 hfp hfc
    · rintro σ H6 ⟨o6, o7, o8, o9, kvs, rfl, f1, f2, f3, f4, f5, f6, f7⟩
      have k12 : kvs.length ≤ 12 := by rw [List.length_map] at f2; omega
      have hP6 : Pen H6 p c (n + 200) := f7.mono (by rw [List.length_map]; omega)
      clear f7
      walk_at "xs"
      refine s_no fun D H7 hD sm7 e7 => ?_
      have hDp := hP6.neN hD
      walk_at "xs"
      refine s_sortS (xs := rs) (SqL.of (sm7 _ _ (f6.look hrp hr0))) (by omega) fun ys py ly => ?_
      refine s_no fun ra H8 hra sm8 e8 => ?_
      obtain ⟨ks, hks⟩ := keys_texts (kvs := kvs) fun x hx => by
        obtain ⟨d, h1, _⟩ := f4 x hx
        exact ⟨_, h1⟩
      have kl : ks.length = kvs.length := by
        have := congrArg List.length hks
        simpa using this.symm
      have f18 : H8 f = some (.dK kvs) := sm8 _ _ (sm7 _ _ f1)
      walk_at "xs"
      refine s_sortK f18 hks (by omega) fun nms pn ln => ?_
      refine s_no fun kk H9 hkk sm9 e9 => ?_
      have f19 := sm9 _ _ f18
      have dAt : ∀ x ∈ kvs, ∃ d : Door, x.1 = .inr d.name ∧ DoorAt H9 x.2 d ∧ DOk rs d := fun x hx => by
        obtain ⟨d, h1, h2, h3⟩ := f4 x hx
        exact ⟨d, h1, ((h2.same sm7).same sm8).same sm9, h3⟩
      refine s_lcLI (xs := nms.map V.str) (fun D2 k acc H' => Same H9 H' ∧ ∃ ds : List Door, ds.map (·.name) = nms.take k ∧ DoorsAt H9 acc ds ∧ ∀ d ∈ ds, DOk rs d) (SqL.of e9) ?_ ?_ ?_ ?_
      · intro D2 H' _ sm _
        exact ⟨sm, [], rfl, .nil, by simp⟩
      · rintro D2 k acc H' _ ⟨sm, _⟩
        exact SqL.of (sm _ _ e9)
      · rintro D2 k acc x H' hD2 hk hl hA ⟨sm, ds, hds, hat, hok⟩
        have hkn : k < nms.length := by
          have := (List.getElem?_eq_some_iff.mp hk).1
          simpa using this
        rw [List.getElem?_map, List.getElem?_eq_getElem hkn] at hk
        obtain rfl := (Option.some.inj hk).symm
        have hin : (Sum.inr nms[k] : Key) ∈ kvs.map (·.1) := by
          rw [hks]
          exact List.mem_map.mpr ⟨_, pn.mem_iff.mp (List.getElem_mem hkn), rfl⟩
        obtain ⟨v, hv, hm⟩ := valV_mem hin
        obtain ⟨d, hd1, hd2, hd3⟩ := dAt _ hm
        have hnm : d.name = nms[k] := (Sum.inr.inj hd1).symm
        walk_at "xs"
        have nlen : nms.length ≤ 12 := by rw [pn.length_eq]; omega
        refine s_acc hA hl (by omega) fun H'' s'' e'' => ?_
        refine ⟨Same.mut sm s'' hD2, ds ++ [d], ?_, DoorsAt.snoc hd2 hat, ?_⟩
        · rw [List.map_append, hds, List.map_singleton, hnm, List.take_succ_eq_append_getElem hkn]
        · intro d' hd'
          rcases List.mem_append.mp hd' with h | h
          · exact hok d' h
          · rw [List.mem_singleton] at h
            rw [h]; exact hd3
      · rintro da acc H10 hda hl hA ⟨sm10, ds, hds, hat, hok⟩
        rw [List.length_map, List.take_length] at hds
        walk_at "xs"
        have e7' : H10 D = some (.dK []) := sm10 _ _ (sm9 _ _ (sm8 _ _ e7))
        refine s_ds (kvs := sortK ra da) e7' rfl (by show 2 ≤ 15; decide) (make_sort _ _) ?_
        refine s_mu fun H11 s11 e11 => ?_
        have hfD : H6 D = none := hD
        have e8' : H10 ra = some (.lst (ys.map V.str)) := sm10 _ _ (sm9 _ _ e8)
        have nra : ra ≠ D := ne_of e8' e7' (by intro z; cases z)
        have nda : da ≠ D := ne_of hA e7' (by intro z; cases z)
        have noT : ∀ xs, H10 D ≠ some (.tup xs) := by intro xs z; rw [e7'] at z; cases z
        have hP10 : Pen H10 p c (n + 200) := (((hP6.same sm7).same sm8).same sm9).same sm10
        have hHD : H D = none := f6.free hDp hD
        have hHra : H ra = none := f6.free (hP6.neN (Same.free' sm7 hra)) (Same.free' sm7 hra)
        have hda6 : H6 da = none := Same.free' sm7 (Same.free' sm8 (Same.free' sm9 hda))
        have hHda : H da = none := f6.free (hP6.neN hda6) hda6
        have nn : nms.Nodup := by
          refine pn.nodup_iff.mpr ?_
          have := f3
          rw [hks] at this
          exact (List.pairwise_map.mp this).imp fun h z => h (by rw [z])
        refine k (.ref D) ⟨ys, ds⟩ H11 ?_ py ⟨D, ra, da, acc, rfl, ⟨fun z => z hHD, fun z => z hHra, fun z => z hHda⟩, e11, s11.look nra e8', s11.look nda hA, (hat.same sm10).sb s11 noT⟩ ?_ (hP10.sb s11 hDp (hP6.neC hD))
        · refine ⟨ly, by show 1 ≤ ys.length ∧ ys.length ≤ 18; rw [py.length_eq]; exact ⟨r1, r2⟩, fun z hz => hrn z (py.mem_iff.mp hz), ?_, ?_, ?_⟩
          · show ds.length ≤ 18
            have := congrArg List.length hds
            rw [List.length_map, pn.length_eq] at this
            omega
          · show ds.Pairwise fun a b => sLt a.name b.name
            have q1 : nms.Pairwise sLt := (ln.and nn).imp fun {a b} ⟨h1, h2⟩ => sLt_of h1 h2
            rw [← hds] at q1
            exact List.pairwise_map.mp q1
          · intro d hd
            obtain ⟨h1, h2, h3, h4, h5⟩ := hok d hd
            exact ⟨h1, py.mem_iff.mpr h2, h3, h4, h5⟩
        · exact ((((f6.trans (Sb.of_same sm7)).trans (Sb.of_same sm8)).trans (Sb.of_same sm9)).trans (Sb.of_same sm10)).mut s11 hHD
def spStreet : Sp := fun vs H Q _ => ∃ (p c : Addr) (a b o : Int) (n : Nat), vs = [.ref p, .int a, .int b, .int o] ∧ Pen H p c n ∧ n + 3000 < 2 ^ 62 ∧ 1 ≤ a ∧ a ≤ 6 ∧ 0 ≤ b ∧ b ≤ 12 ∧ 0 ≤ o ∧ o ≤ 8 ∧
  ∀ (v : V) (T : TData) H', TOk T → StreetAt (fun q => H q ≠ none) H' v T → Sb p H H' → Pen H' p c (n + 3000) → Q v H'
theorem ok_law_street {P : Program} {w : World} {K : PySem.W.Frag} {mg : Str → Option Value} {base : Heap} (T : Tx K mg) : FnOk P w K mg base CX0 5 T.a_law_street T.fd_law_street ["pen", "rooms", "doors", "odd"] (spStreet) := by
  refine T.F_law_street.ok sc_law_street (fun vs H Q E h => ?_) (fun cdv A outer s H vs Q E hr h => ?_)
  · obtain ⟨p, c, a, b, o, n, rfl, _⟩ := h
    rfl
  · obtain ⟨p, c, a, b, o, n, rfl, hP, hn, a1, a2, b1, b2, o1, o2, k⟩ := h
    refine ⟨_, (pss_cons (ps_set (i := 4) (sc_law_street).nd rfl (Or.inr rfl) (pe_slice sl_list (pe_call (ok_law_names T) (hr.mono (by decide)) (by rfl) T.g_law_names T.k_law_names T.b_law_names .nil pass0 (pa_cons (pv 0) (pa_cons pe_int pa_nil))) po_none (po_some (pe_op op_add (pv 1) pe_int))))
      (pss_cons (ps_set (i := 5) (sc_law_street).nd rfl (Or.inr rfl) (pe_lst pa_nil))
      (pss_cons (ps_for PassesOwn.never rfl (pi_range1 rfl T.z_range (pa_cons (pe_op op_add pe_int (pe_call (ok_law_draw T) (hr.mono (by decide)) (by rfl) T.g_law_draw T.k_law_draw T.b_law_draw .nil pass0 (pa_cons (pv 0) (pa_cons (pe_op op_add (pv 3) pe_int) pa_nil)))) pa_nil)) (pg_name (i := 6) (sc_law_street).nd rfl (Or.inl rfl))
      (pss_one (ps_expr (pe_bm PySem.F.plainAttrs_list PySem.F.slot_list_append PySem.F.type_list_append mt_append (pv 5) (pa_cons (pe_slice sl_list (pe_call (ok_law_shuffled T) (hr.mono (by decide)) (by rfl) T.g_law_shuffled T.k_law_shuffled T.b_law_shuffled .nil pass0 (pa_cons (pv 0) (pa_cons (pv 4) pa_nil))) po_none (po_some (pe_op op_add pe_int (pe_call (ok_law_draw T) (hr.mono (by decide)) (by rfl) T.g_law_draw T.k_law_draw T.b_law_draw .nil pass0 (pa_cons (pv 0) (pa_cons (pv 1) pa_nil)))))) pa_nil)))))
      (Evl.pss_cut (ps_if (pt_cmpR op_eq (pe_call (ok_law_draw T) (hr.mono (by decide)) (by rfl) T.g_law_draw T.k_law_draw T.b_law_draw .nil pass0 (pa_cons (pv 0) (pa_cons pe_int pa_nil))) pe_int (nomark _))
      (pss_one (ps_set (i := 5) (sc_law_street).nd rfl (Or.inr rfl) (pe_lc (own := [("group", 7)]) rfl (sc_law_street).nd (pi_list (pv 5)) (blkOk_by (own := [("group", 7)]) (N := n_law_street) (sc := defScope s_law_street) (by decide +kernel)) (fun _ _ _ _ _ => (pg_name (i := 7) (sc_law_street).nd rfl (Or.inl rfl))) (fun _ _ _ _ _ => pts_nil) (fun _ _ _ _ _ => (pe_ix (ix_listK (K := K) rfl) (pv 5) pe_int (fun _ _ => rfl))))))
      pss_nil)
      (pss_cons (ps_setLc (i := 8) (own := [("group", 7)]) rfl (sc_law_street).nd rfl rfl (sw_true rfl rfl rfl (by decide +kernel)) (pi_list (pv 5)) (blkOk_by (own := [("group", 7)]) (N := n_law_street) (sc := defScope s_law_street) (by decide +kernel)) (fun _ _ _ _ _ => (pg_name (i := 7) (sc_law_street).nd rfl (Or.inl rfl))) (fun _ _ _ _ _ => pts_nil) (fun _ _ _ _ _ => (pe_call (ok_law_sort T) (hr.mono (by decide)) (by rfl) T.g_law_sort T.k_law_sort T.b_law_sort .nil pass0 (pa_cons (pv 0) (pa_cons (pv 7) (pa_cons (pv 4) (pa_cons (pv 2) pa_nil)))))))
      (pss_cons (ps_set (i := 9) (sc_law_street).nd rfl (Or.inl rfl) (pe_ix ix_list (pe_lst (pa_cons (pe_op op_sub (pe_call (ok_law_draw T) (hr.mono (by decide)) (by rfl) T.g_law_draw T.k_law_draw T.b_law_draw .nil pass0 (pa_cons (pv 0) (pa_cons pe_int pa_nil))) pe_int) (pa_cons (pe_op op_sub (pe_call (ok_law_draw T) (hr.mono (by decide)) (by rfl) T.g_law_draw T.k_law_draw T.b_law_draw .nil pass0 (pa_cons (pv 0) (pa_cons pe_int pa_nil))) pe_int) pa_nil))) (pe_call (ok_law_draw T) (hr.mono (by decide)) (by rfl) T.g_law_draw T.k_law_draw T.b_law_draw .nil pass0 (pa_cons (pv 0) (pa_cons pe_int pa_nil))) (fun _ _ => rfl)))
      (pss_one (ps_ret (pe_disp (pps_cons pe_str (pe_ix ix_list (pv 8) pe_int (fun _ _ => rfl)) (pps_cons pe_str (pv 9) (pps_cons pe_str (pe_slice sl_list (pv 8) (po_some pe_int) (po_some (pe_un un_neg pe_int))) (pps_cons pe_str (pe_ix ix_list (pv 8) (pe_un un_neg pe_int) (fun _ _ => rfl)) pps_nil)))) (by rfl) (by rfl) (fun z => by cases z) (by decide)))))))))), ?_⟩
    walk_at "go"
    refine ⟨p, c, 18, n, rfl, hP, by omega, by decide, by decide, fun q zs H1 hq e1 hl hN s1 hP1 => ?_⟩
    walk_at "xs"
    refine s_no fun pl H2 hpl sm2 e2 => ?_
    rw [cutV_to (by omega), ← List.map_take] at e2
    have l2 : (zs.take (a + 2).toNat).length = (a + 2).toNat := by
      have : (Int.toNat 18) = 18 := rfl
      rw [List.length_take]; omega
    have N2 : ∀ z ∈ zs.take (a + 2).toNat, Nm z := fun z hz => hN z (List.mem_of_mem_take hz)
    generalize zs.take (a + 2).toNat = pool at e2 l2 N2
    walk_at "xs"
    refine s_no fun g H3 hg sm3 e3 => ?_
    walk_at "xs"
    have hP3 : Pen H3 p c (n + 20) := by walk_at "pn"
    have hplp := hP1.neN hpl
    have hgp : g ≠ p := (hP1.same sm2).neN hg
    have hgc : g ≠ c := (hP1.same sm2).neC hg
    have hHg : H g = none := s1.free hgp (Same.free' sm2 hg)
    have s3 : Sb p H H3 := by walk_at "sb"
    have e23 := sm3 _ _ e2
    have hplg : pl ≠ g := ne_of_none e2 hg
    clear e1 sm2 sm3 hq hl hN e2
    refine ⟨p, c, o + 1, n + 20, rfl, hP3, by omega, by omega, by omega, fun d H4 hd0 hd1 s4 hP4 => ?_⟩
    walk_at "xs"
    refine s_forRI (fun i σ H' => ∃ (o6 : Option V) (gv : List V) (gz : List (List Str)), σ = [some (.ref p), some (.int a), some (.int b), some (.int o), some (.ref pl), some (.ref g), o6, none, none, none] ∧
      H' g = some (.lst gv) ∧ gv.length = i ∧ PySem.W.EachIs (StrsAt (fun q => q = g) H') gv gz ∧ (∀ ys ∈ gz, 1 ≤ ys.length ∧ ys.length ≤ 8 ∧ ∀ z ∈ ys, Nm z) ∧ H' pl = some (.lst (pool.map V.str)) ∧ Sb p H H' ∧ Pen H' p c (n + 22 + 10 * i)) (by omega) (by omega)
      ⟨none, [], [], rfl, s4.look hgp e3, rfl, .nil, by simp, s4.look hplp e23, s3.trans s4, hP4.mono (by omega)⟩ ?_ ?_
    · rintro i σ H5 hi ⟨o6, gv, gz, rfl, f1, f2, f3, f4, f5, f6, f7⟩
      have gsz : gv.length < sizeLine := by rw [sizeLine_eq]; omega
      have pl8 : (pool.map V.str).length ≤ 8 := by rw [List.length_map]; omega
      walk_at "xs"
      refine ⟨p, c, pl, _, _, rfl, f7, by omega, f5, by omega, fun q2 ys H6 hq2 e6 py s6 hP6 => ?_⟩
      obtain ⟨ws, pw, rfl⟩ := perm_strs py
      have hq2p := f7.neN hq2
      walk_at "xs"
      refine ⟨p, c, a, _, rfl, hP6, by omega, by omega, by omega, fun e H7 he0 he1 s7 hP7 => ?_⟩
      have e7 : H7 q2 = some (.lst (ws.map V.str)) := s7.look hq2p e6
      walk_at "xs"
      refine s_no fun sl H8 hsl sm8 e8 => ?_
      rw [cutV_to (by omega), ← List.map_take] at e8
      have f18 : H8 g = some (.lst gv) := sm8 _ _ (s7.look hgp (s6.look hgp f1))
      walk_at "xs"
      refine s_mu fun H9 s9 e9 => ?_
      have g7 : H7 g = some (.lst gv) := s7.look hgp (s6.look hgp f1)
      have slg : sl ≠ g := (ne_of_none g7 hsl).symm
      have wl : ws.length = pool.length := pw.length_eq
      refine ⟨_, gv ++ [.ref sl], gz ++ [ws.take (1 + e).toNat], rfl, e9, by simp [f2], ?_, ?_, ?_, ?_, ?_⟩
      · refine Each.snoc ⟨sl, rfl, slg, s9.look slg e8⟩ ?_
        exact Each.imp (fun v y z => ((((z.sb s6 f7).sb s7 hP6).same sm8).mutL rfl s9)) f3
      · intro ys hys
        rcases List.mem_append.mp hys with h | h
        · exact f4 ys h
        · rw [List.mem_singleton] at h
          rw [h, List.length_take]
          refine ⟨by omega, by omega, fun z hz => N2 z (pw.mem_iff.mp (List.mem_of_mem_take hz))⟩
      · exact s9.look hplg (sm8 _ _ (s7.look hplp (s6.look hplp f5)))
      · exact (((f6.trans s6).trans s7).trans (Sb.of_same sm8)).mut s9 hHg
      · have z : Pen H8 p c (n + 22 + 10 * (i + 1)) := (hP7.same sm8).mono (by rw [List.length_map]; omega)
        exact z.sb s9 hgp hgc
    · rintro σ H5 ⟨o6, gv, gz, rfl, f1, f2, f3, f4, f5, f6, f7⟩
      have gl2 : 2 ≤ gv.length ∧ gv.length ≤ 10 := by omega
      have hP5 : Pen H5 p c (n + 130) := f7.mono (by omega)
      clear f7 f2
      refine s_cut (fun σ' H' => ∃ (g2 : Addr) (gv : List V) (gz : List (List Str)), σ' = [some (.ref p), some (.int a), some (.int b), some (.int o), some (.ref pl), some (.ref g2), o6, none, none, none] ∧
        H' g2 = some (.lst gv) ∧ (2 ≤ gv.length ∧ gv.length ≤ 10) ∧ PySem.W.EachIs (StrsAt (fun _ => False) H') gv gz ∧ (∀ ys ∈ gz, 1 ≤ ys.length ∧ ys.length ≤ 8 ∧ ∀ z ∈ ys, Nm z) ∧ H' pl = some (.lst (pool.map V.str)) ∧ Sb p H H' ∧ Pen H' p c (n + 131)) ?_ ?_
      · walk_at "xs"
        refine ⟨p, c, 3, _, rfl, hP5, by omega, by decide, by decide, fun d2 H6 _ _ s6 hP6 => ?_⟩
        walk_at "xs"
        have f16 : H6 g = some (.lst gv) := s6.look hgp f1
        have f36 := Each.imp (fun v y (z : StrsAt (fun q => q = g) H5 v y) => (z.sb s6 hP5).weak (av' := fun _ => False) (fun _ z => z.elim)) f3
        refine ite2 (fun h7 => ?_) (fun h7 => ?_)
        · walk_at "xs"
          refine s_lcLI (xs := gv) (fun D k acc H' => Same H6 H' ∧ acc = List.replicate k (gv[0]'(by omega))) (SqL.of f16) ?_ ?_ ?_ ?_
          · intro D H' _ sm _
            exact ⟨sm, rfl⟩
          · rintro D k acc H' _ ⟨sm, _⟩
            exact SqL.of (sm _ _ f16)
          · rintro D k acc x H' hD hk hl hA ⟨sm, rfl⟩
            have f17 := sm _ _ f16
            have ha0 := at_zero (xs := gv) (by omega)
            have hkl := (List.getElem?_eq_some_iff.mp hk).1
            walk_at "xs"
            refine s_acc hA hl (by omega) fun H'' s'' e'' => ⟨Same.mut sm s'' hD, ?_⟩
            exact (List.replicate_succ' ..).symm
          · rintro D acc H' hD hl hA ⟨sm, rfl⟩
            walk_at "xs"
            have q0 := f36
            obtain ⟨hb, h0⟩ := Each.at f36 (i := 0) (by omega)
            refine ⟨D, _, List.replicate gv.length (gz[0]), rfl, hA, by simp; exact gl2, ?_, ?_, sm _ _ (s6.look hplp f5), (f6.trans s6).trans (Sb.of_same sm), (hP6.same sm).mono (by omega)⟩
            · exact Each.repl (h0.same sm) _
            · intro ys hys
              rw [(List.mem_replicate.mp hys).2]
              exact f4 _ (List.getElem_mem _)
        · walk_at "xs"
          exact ⟨g, gv, gz, rfl, f16, gl2, f36, f4, s6.look hplp f5, f6.trans s6, hP6.mono (by omega)⟩
      · rintro σ' H6 ⟨g2, gv, gz, rfl, f1, gl2, f3, f4, f5, f6, f7⟩
        have hg2p := f7.ne f1
        walk_at "xs"
        refine s_lcLI (xs := gv) (fun D k acc H' => ∃ Ss : List SData, PySem.W.EachIs (SortAt (fun q => q = D ∨ H q ≠ none) H') acc Ss ∧ (∀ S ∈ Ss, SOk S) ∧ Sb p H6 H' ∧ Pen H' p c (n + 131 + 200 * k)) (SqL.of f1) ?_ ?_ ?_ ?_
        · intro D H' _ sm _
          exact ⟨[], .nil, by simp, Sb.of_same sm, f7.same sm⟩
        · rintro D k acc H' _ ⟨_, _, _, s, _⟩
          exact SqL.of (s.look hg2p f1)
        · rintro D k acc x H' hD hk hl hA ⟨Ss, hS, hok, s', hP'⟩
          have hkl := (List.getElem?_eq_some_iff.mp hk).1
          obtain ⟨ws, hws, hst⟩ := Each.get f3 hk
          obtain ⟨ga, rfl, _, hga⟩ := hst
          obtain ⟨w1, w2, w3⟩ := f4 ws (List.mem_of_getElem? hws)
          have hgap := f7.ne hga
          have hDp := f7.neN hD
          walk_at "xs"
          refine ⟨p, c, ga, pl, ws, pool, b, _, rfl, hP', by omega, s'.look hgap hga, s'.look hplp f5, w1, by omega, by omega, by omega, w3, N2, b1, b2, fun v S H7 ok pr at_ s7 hP7 => ?_⟩
          have hA7 : H7 D = some (.lst acc) := s7.look hDp hA
          refine s_acc hA7 hl (by omega) fun H'' s'' e'' => ?_
          have hDH : H D = none := f6.free hDp hD
          refine ⟨Ss ++ [S], Each.snoc ((at_.weak ?_).mutL (Or.inl rfl) hA7 s'') (Each.imp (fun v S z => (z.sb s7 hP').mutL (Or.inl rfl) hA7 s'') hS), ?_, (s'.trans s7).mut s'' hD, (hP7.mono (by omega)).sb s'' hDp (f7.neC hD)⟩
          · rintro q (rfl | z)
            · rw [hA]; exact fun z => nomatch z
            · exact (f6.trans s').some' hP' z
          · intro S' hS'
            rcases List.mem_append.mp hS' with h | h
            · exact hok S' h
            · rw [List.mem_singleton] at h
              rw [h]; exact ok
        · rintro D acc H7 hD hl hA ⟨Ss, hS, hok, s7, hP7⟩
          have hDp := f7.neN hD
          have sl7 := Each.len hS
          walk_at "xs"
          refine ⟨p, c, 7, _, rfl, hP7, by omega, by decide, by decide, fun x1 H8 x10 x11 s8 hP8 => ?_⟩
          walk_at "xs"
          refine ⟨p, c, 101, _, rfl, hP8, by omega, by decide, by decide, fun x2 H9 x20 x21 s9 hP9 => ?_⟩
          walk_at "xs"
          refine s_no fun w H10 hw sm10 e10 => ?_
          walk_at "xs"
          refine ⟨p, c, 2, _, rfl, hP9.same sm10, by omega, by decide, by decide, fun x3 H11 x30 x31 s11 hP11 => ?_⟩
          have e11 := s11.look (hP9.neN hw) e10
          obtain ⟨f, ef, hf⟩ := at_two (a := x1 - 3) (b := x2 - 50) x30 x31
          walk_at "xs"
          refine s_no fun D2 H12 hD2 sm12 e12 => ?_
          have hA12 : H12 D = some (.lst acc) := sm12 _ _ (s11.look hDp (sm10 _ _ (s9.look hDp (s8.look hDp hA))))
          have a0 := at_zero (xs := acc) (by omega)
          have aL := at_last (xs := acc) (by omega)
          walk_at "xs"
          refine s_no fun ol H13 hol sm13 e13 => ?_
          rw [cutV_mid (by omega)] at e13
          have hA13 := sm13 _ _ hA12
          walk_at "xs"
          have e12' : H13 D2 = some (.dK []) := sm13 _ _ e12
          refine s_ds (kvs := streetK acc[0] f ol (acc[acc.length - 1])) e12' rfl (by show 4 ≤ 15; decide) (make_street _ _ _ _) ?_
          refine s_mu fun H14 s14 e14 => ?_
          have s013 : Sb p H7 H13 := ((((s8.trans s9).trans (Sb.of_same sm10)).trans s11).trans (Sb.of_same sm12)).trans (Sb.of_same sm13)
          have hH7 : Sb p H H7 := f6.trans s7
          have hD2p := hP11.neN hD2
          have hD27 : H7 D2 = none := s8.free hD2p (s9.free hD2p (Same.free' sm10 (s11.free hD2p hD2)))
          have hHD2 : H D2 = none := hH7.free hD2p hD27
          have holp : ol ≠ p := (hP11.same sm12).neN hol
          have hol7 : H7 ol = none := s8.free holp (s9.free holp (Same.free' sm10 (s11.free holp (Same.free' sm12 hol))))
          have hHol : H ol = none := hH7.free holp hol7
          have hS14 : PySem.W.EachIs (SortAt (fun q => H q ≠ none) H14) acc Ss := by
            refine Each.imp (fun v S z => ?_) hS
            have z1 := (z.weak (av' := fun q => H q ≠ none) fun q h => Or.inr h).sb s013 hP7
            obtain ⟨a', ra, da, ts, rfl, x, h1, h2, h3, h4⟩ := z
            have n1 : a' ≠ D2 := ne_of_none h1 hD27
            have n2 : ra ≠ D2 := ne_of_none h2 hD27
            have n3 : da ≠ D2 := ne_of_none h3 hD27
            obtain ⟨a'', ra', da', ts', e', x', h1', h2', h3', h4'⟩ := z1
            cases e'
            have na : a' ≠ p := by
              obtain ⟨ns, t, r, q1, _⟩ := hP7
              refine ne_of h1 q1 (fun z => ?_)
              have := HO.dK.inj z
              simp [sortK, penK] at this
            have k1 := s013 _ _ na h1
            rw [h1'] at k1
            have k2 := HO.dK.inj (Option.some.inj k1)
            simp only [sortK, List.cons.injEq, Prod.mk.injEq, V.ref.injEq, true_and, and_true] at k2
            obtain ⟨k3, k4⟩ := k2
            subst k3 k4
            refine ⟨a', ra', da', ts', rfl, x', s14.look n1 h1', s14.look n2 h2', s14.look n3 h3', h4'.sb s14 ?_⟩
            intro xs z
            rw [e12'] at z
            cases z
          have nol : ol ≠ D2 := (ne_of_none e12 hol).symm
          obtain ⟨hb0, r0⟩ := Each.at hS14 (i := 0) (by omega)
          obtain ⟨hbL, rL⟩ := Each.at hS14 (i := acc.length - 1) (by omega)
          refine k (.ref D2) ⟨Ss[0], f, (Ss.drop 1).dropLast, Ss[acc.length - 1]⟩ H14 ?_ ⟨D2, ol, _, _, _, rfl, ⟨fun z => z hHD2, fun z => z hHol⟩, e14, r0, rL, s14.look nol e13, Each.dropLast (Each.drop 1 hS14)⟩ ?_ ?_
          · refine ⟨hok _ (List.getElem_mem _), hok _ (List.getElem_mem _), ?_, ?_, ?_⟩
            · intro S hS
              exact hok S (List.mem_of_mem_drop ((List.dropLast_sublist _).subset hS))
            · show ((Ss.drop 1).dropLast).length ≤ 8
              rw [List.length_dropLast, List.length_drop]
              omega
            · show -50 ≤ f ∧ f ≤ 50
              rcases hf with rfl | rfl <;> omega
          · exact (hH7.trans s013).mut s14 hHD2
          · have z : Pen H13 p c (n + 3000) := ((hP11.same sm12).same sm13).mono (by omega)
            exact z.sb s14 hD2p (hP11.neC hD2)
end LH
end
section
set_option maxRecDepth 100000
set_option maxHeartbeats 4000000
namespace LH
open PySem L2
local macro_rules | `(tactic| walk_at "ne") => `(tactic| first
  | assumption
  | (refine' Ne.symm ?hz; (case hz => assumption)))
local macro_rules | `(tactic| walk_at "hp") => `(tactic| first
  | assumption
  | exact upd_same
  | (refine' Same.look (by assumption) ?hz; (case hz => walk_at "hp"))
  | (refine' Sb.look (by assumption) ?hn ?hz; (case hn => walk_at "ne"); (case hz => walk_at "hp"))
  | (refine' upd_new ?hz (by assumption); (case hz => walk_at "hp"))
  | (refine' upd_keep ?hz (by assumption); (case hz => walk_at "hp"))
  | (refine' upd_keep' ?hz (by assumption); (case hz => walk_at "hp")))
local macro_rules | `(tactic| walk_at "sb") => `(tactic| first
  | assumption
  | exact Sb.refl _ _
  | exact Same.refl _
  | (refine' Sb.of_same ?hz; (case hz => assumption))
  | (refine' Sb.trans ?hz (Sb.of_same (by assumption)); (case hz => walk_at "sb"))
  | (refine' Sb.trans ?hz (by assumption); (case hz => walk_at "sb"))
  | (refine' Sb.mut ?hz (by assumption) ?hn; (case hz => walk_at "sb"); (case hn => walk_at "fr"))
  | (refine' Same.trans ?hz (by assumption); (case hz => walk_at "sb"))
  | (refine' Same.mut ?hz (by assumption) ?hn; (case hz => walk_at "sb"); (case hn => walk_at "fr")))
local macro_rules | `(tactic| walk_at "fr") => `(tactic| first
  | assumption
  | (refine' Same.free' (by assumption) ?hz; (case hz => walk_at "fr"))
  | (refine' Sb.free (by assumption) ?hn ?hz; (case hz => walk_at "fr"); (case hn => walk_at "ne")))
local macro_rules | `(tactic| walk_at "pn") => `(tactic| first
  | assumption
  | (refine' Pen.same ?hz (by assumption); (case hz => walk_at "pn"))
  | (refine' Pen.sb ?hz (by assumption) ?hn ?hm; (case hz => walk_at "pn"); (case hn => walk_at "ne"); (case hm => walk_at "ne")))
local macro_rules | `(tactic| walk_at "sq") => `(tactic| first
  | assumption
  | (refine' SqL.of ?hz; (case hz => walk_at "hp"))
  | (refine' SqT.of ?hz; (case hz => walk_at "hp"))
  | (refine' Or.inl (SqL.of ?hz); (case hz => walk_at "hp"))
  | (refine' Or.inr (SqT.of ?hz); (case hz => walk_at "hp"))
  | (refine' Or.inl ?hz; (case hz => assumption))
  | (refine' Or.inr ?hz; (case hz => assumption)))
local macro_rules | `(tactic| walk_at "ar") => `(tactic| first
  | assumption
  | decide
  | omega
  | exact ⟨by omega, by omega⟩
  | exact Or.inl ⟨by omega, by omega⟩
  | exact Or.inr ⟨by omega, by omega⟩
  | exact ⟨by decide, by decide, by decide⟩)
local macro_rules | `(tactic| walk_at "lk") => `(tactic| first
  | assumption
  | exact sortF_rooms _ _
  | exact sortF_doors _ _
  | exact streetF_left _ _ _ _
  | exact streetF_first _ _ _ _
  | exact streetF_odd _ _ _ _
  | exact streetF_right _ _ _ _
  | exact sortF_no _ _ (by decide +kernel) (by decide +kernel)
  | exact streetF_no _ _ _ _ (by decide +kernel) (by decide +kernel) (by decide +kernel) (by decide +kernel))
local macro_rules | `(tactic| walk_at "x1") => `(tactic| first
  | (with_reducible refine' s_seq ?_)
  | ((with_reducible refine' s_var ?hv ?_); (case hv => exact rfl))
  | (with_reducible refine' s_c ?_)
  | (with_reducible refine' s_op ?_)
  | (with_reducible refine' s_asg ?_)
  | (with_reducible refine' s_ret ?_)
  | (with_reducible refine' s_I0 ?_)
  | ((with_reducible refine' s_I ?hc ?_); (case hc => walk_at "ar"))
  | (with_reducible refine' s_test ?_)
  | (with_reducible refine' s_bl ?_)
  | (with_reducible refine' s_ifS ?_)
  | (with_reducible refine' s_next ?_)
  | (with_reducible refine' s_dget ?_)
  | (with_reducible refine' s_cons ?_)
  | (with_reducible refine' s_nil ?_)
  | (with_reducible refine' s_CB ?_)
  | (with_reducible refine' s_lst ?_)
  | (with_reducible refine' s_tup ?_)
  | ((with_reducible refine' s_mkL ?hl ?_); (case hl => first | exact (Nat.le_of_ble_eq_true rfl) | omega))
  | ((with_reducible refine' s_mkT ?hl ?_); (case hl => first | exact (Nat.le_of_ble_eq_true rfl) | omega))
  | (with_reducible refine' s_drop ?_)
  | (with_reducible refine' s_and ?_)
  | (with_reducible refine' s_or ?_)
  | (with_reducible refine' s_not ?_)
  | (with_reducible refine' s_if ?_)
  | (with_reducible refine' s_un ?_)
  | (with_reducible refine' s_rU ?_)
  | (with_reducible refine' s_B ?_)
  | (with_reducible refine' s_yes ?_)
  | (with_reducible refine' s_andV ?_)
  | (with_reducible refine' s_orV ?_)
  | (with_reducible refine' s_notV ?_)
  | (with_reducible refine' s_chain ?_)
  | (with_reducible refine' s_disp ?_)
  | (with_reducible refine' s_pcons ?_)
  | (with_reducible refine' s_pnil ?_)
  | (with_reducible refine' s_dput ?_)
  | (with_reducible refine' s_sl ?_)
  | (with_reducible refine' s_noPart ?_)
  | (with_reducible refine' s_part ?_)
  | (with_reducible refine' s_pt ?_)
  | (with_reducible refine' s_bm ?_)
  | (with_reducible refine' s_bm0 ?_)
  | (with_reducible refine' s_fld ?_)
  | (with_reducible refine' s_fldS ?_)
  | (with_reducible refine' s_par ?_)
  | (with_reducible refine' s_pair ?_)
  | (with_reducible refine' s_par3 ?_)
  | (with_reducible refine' s_tri ?_)
  | (with_reducible refine' s_asgT ?_)
  | (with_reducible refine' s_gName ?_)
  | (with_reducible refine' s_gNil ?_)
  | (with_reducible refine' s_gCons ?_)
  | (with_reducible refine' s_retN ?_)
  | (with_reducible refine' s_call1 ?_)
  | (with_reducible refine' s_eqI ?_)
  | (with_reducible refine' s_neI ?_)
  | (with_reducible refine' s_eqS ?_)
  | (with_reducible refine' s_neS ?_)
  | (with_reducible refine' s_abs ?_)
  | (with_reducible refine' s_strS ?_)
  | (with_reducible refine' s_wt ?_)
  | (with_reducible refine' s_forR ?_)
  | (with_reducible refine' s_forL ?_)
  | (with_reducible refine' s_lcR ?_)
  | (with_reducible refine' s_lcL ?_)
  | (with_reducible refine' s_lcT ?_)
  | (with_reducible refine' s_m1 ?_)
  | (with_reducible refine' s_str ?_)
  | (with_reducible refine' s_gSub ?_)
  | (with_reducible refine' s_dnew ?_)
  | (with_reducible refine' s_lcS ?_)
  | (with_reducible refine' s_make ?_)
  | (with_reducible refine' s_intI ?_)
  | ((with_reducible refine' s_gTup ?hs ?hl ?_); (case hs => walk_at "sq"); (case hl => exact rfl))
  | (with_reducible refine' s_itT ?_)
  | (with_reducible refine' s_itF ?_)
  | ((with_reducible refine' s_dgetS ?hp ?he ?_); (case hp => walk_at "hp"); (case he => first | exact penK_rest _ _ _ | exact penK_turn _ _ _ | exact penK_cells _ _ _ | exact sortK_rooms _ _ | exact sortK_doors _ _ | exact streetK_left _ _ _ _ | exact streetK_first _ _ _ _ | exact streetK_odd _ _ _ _ | exact streetK_right _ _ _ _ | assumption))
  | ((with_reducible refine' s_dputS ?hp ?he ?hl ?_); (case hp => walk_at "hp"); (case he => first | exact put_turn _ _ _ _ | exact put_rest _ _ _ _ | exact rfl); (case hl => exact small1000 (Nat.le_of_ble_eq_true rfl)))
  | ((with_reducible refine' s_ixL ?hs ?he ?_); (case hs => walk_at "sq"); (case he => first | assumption | exact rfl))
  | ((with_reducible refine' s_ixT ?hs ?he ?_); (case hs => walk_at "sq"); (case he => first | assumption | exact rfl))
  | ((with_reducible refine' s_lenL ?hs ?_); (case hs => walk_at "sq"))
  | ((with_reducible refine' s_lenZ ?hs ?_); (case hs => assumption))
  | ((with_reducible refine' s_ixS ?hs ?he ?_); (case hs => assumption); (case he => first | assumption | exact rfl))
  | ((with_reducible refine' s_lstOf ?hs ?_); (case hs => walk_at "sq"))
  | ((with_reducible refine' s_slL ?hs ?_); (case hs => walk_at "sq"))
  | ((with_reducible refine' s_tyL ?hs ?_); (case hs => walk_at "sq"))
  | ((with_reducible refine' s_append ?hp ?hl ?_); (case hp => walk_at "hp"); (case hl => walk_at "ar"))
  | ((with_reducible refine' s_neL ?ha ?hb ?h0 ?_); (case ha => walk_at "sq"); (case hb => walk_at "sq"); (case h0 => first | exact Or.inr rfl | exact Or.inl rfl))
  | ((with_reducible refine' s_eqL ?ha ?hb ?h0 ?_); (case ha => walk_at "sq"); (case hb => walk_at "sq"); (case h0 => first | exact Or.inr rfl | exact Or.inl rfl))
  | ((with_reducible refine' s_clear ?hp ?_); (case hp => walk_at "hp"))
  | ((with_reducible refine' s_reverse ?hp ?_); (case hp => walk_at "hp"))
  | ((with_reducible refine' s_fldV ?hp ?hc ?hn ?he ?_); (case hp => walk_at "hp"); (case hc => assumption); (case hn => assumption); (case he => walk_at "lk"))
  | (with_reducible refine' s_methO ?_)
  | ((with_reducible refine' s_methV ?hp ?hn ?_); (case hp => walk_at "hp"); (case hn => walk_at "lk"))
  )
local macro_rules | `(tactic| walk_at "xs") => `(tactic| repeat (walk_at "x1"))
local macro_rules | `(tactic| walk_at "go") => `(tactic| ((try dsimp only [cxOf, Cx.nox, Cx.wish]); walk_at "xs"))
local macro_rules | `(tactic| walk_at "xu") => `(tactic| repeat (first | walk_at "x1" | (with_reducible refine' s_muU ?_)))

def spPlain : Sp := fun vs H Q _ => ∃ (v : V) (d : Door), vs = [v] ∧ DoorAt H v d ∧ ∀ t H', H t = none → Same H H' → H' t = some (.tup (doorV d)) → Q (.ref t) H'
theorem ok_plain_door {P : Program} {w : World} {K : PySem.W.Frag} {mg : Str → Option Value} {base : Heap} (T : Tx K mg) : FnOk P w K mg base CX0 1 T.a_plain_door T.fd_plain_door ["door"] (spPlain) := by
  refine T.F_plain_door.ok sc_plain_door (fun vs H Q E h => ?_) (fun cdv A outer s H vs Q E hr h => ?_)
  · obtain ⟨v, d, rfl, _⟩ := h
    rfl
  · obtain ⟨v, d, rfl, ⟨t, rfl, e⟩, k⟩ := h
    refine ⟨_, (pss_cons (ps_asg (pv 0) (pg_tup rfl (pgs_cons (pg_name (i := 1) (sc_plain_door).nd rfl (Or.inl rfl)) (pgs_cons (pg_name (i := 2) (sc_plain_door).nd rfl (Or.inl rfl)) (pgs_cons (pg_name (i := 3) (sc_plain_door).nd rfl (Or.inl rfl)) (pgs_cons (pg_name (i := 4) (sc_plain_door).nd rfl (Or.inl rfl)) (pgs_cons (pg_name (i := 5) (sc_plain_door).nd rfl (Or.inl rfl)) pgs_nil)))))))
      (pss_one (ps_ret (pe_tup (pa_cons (pe_callTy call_strS (by rfl) T.z_str (by decide +kernel) (pa_cons (pv 1) pa_nil)) (pa_cons (pe_callTy call_strS (by rfl) T.z_str (by decide +kernel) (pa_cons (pv 2) pa_nil)) (pa_cons (pe_callTy call_intI (by rfl) T.z_int (by decide +kernel) (pa_cons (pv 3) pa_nil)) (pa_cons (pe_callTy call_strS (by rfl) T.z_str (by decide +kernel) (pa_cons (pv 4) pa_nil)) (pa_cons (pe_callTy call_intI (by rfl) T.z_int (by decide +kernel) (pa_cons (pv 5) pa_nil)) pa_nil))))))))), ?_⟩
    walk_at "go"
    exact s_no k
def spSortInit (C : Addr) : Sp := fun vs H Q _ => ∃ (x dx r d : Addr) (rs : List Str) (ts : List V) (ds : List Door) (S : SData), vs = [.ref x, .ref r, .ref d] ∧ H x = some (.ins C dx []) ∧ Sq H r (rs.map V.str) ∧ Sq H d ts ∧ DoorsAt H ts ds ∧ SOk S ∧ rs.Perm S.rooms ∧ ds.Perm S.doors ∧
  ∀ H' ra da ts', H ra = none → H da = none → H' x = some (.ins C dx (sortF ra da)) → H' ra = some (.lst (S.rooms.map V.str)) → H' da = some (.lst ts') → DoorsAt H' ts' S.doors → Sb x H H' → Q .non H'
theorem ok_Sort_init {P : Program} {w : World} {K : PySem.W.Frag} {mg : Str → Option Value} {base : Heap} (T : Tx K mg) : FnOk P w K mg base CX0 2 T.a_Sort_init T.fd_Sort_init ["self", "rooms", "doors"] ((spSortInit T.c_Sort)) := by
  refine T.F_Sort_init.ok sc_Sort_init (fun vs H Q E h => ?_) (fun cdv A outer s H vs Q E hr h => ?_)
  · obtain ⟨x, dx, r, d, rs, ts, ds, S, rfl, _⟩ := h
    rfl
  · obtain ⟨x, dx, r, d, rs, ts, ds, S, rfl, hx, hr0, hd0, hdd, ok, pr, pd, k⟩ := h
    have cl := T.cl_Sort
    have n1 := T.na_Sort_rooms
    have n2 := T.na_Sort_doors
    have rl : rs.length ≤ 18 := by rw [pr.length_eq]; exact ok.rl.2
    have dl : ds.length ≤ 18 := by rw [pd.length_eq]; exact ok.dl
    have tl : ts.length ≤ 18 := by rw [Each.len hdd]; exact dl
    refine ⟨_, (pss_cons (ps_fld (pv 0) (pe_callB cr_sortedS (by rfl) T.z_sorted (by decide +kernel) (pa_cons (pe_lc (own := [("room", 3)]) rfl (sc_Sort_init).nd (pi_sq (pv 1)) (blkOk_by (own := [("room", 3)]) (N := n_Sort_init) (sc := defScope s_Sort_init) (by decide +kernel)) (fun _ _ _ _ _ => (pg_name (i := 3) (sc_Sort_init).nd rfl (Or.inl rfl))) (fun _ _ _ _ _ => pts_nil) (fun _ _ _ _ _ => (pe_callTy call_strS (by rfl) T.z_str (by decide +kernel) (pa_cons (pv 3) pa_nil)))) pa_nil)) rfl)
      (pss_one (ps_fld (pv 0) (pe_callB (cr_sortedD hr.units) (by rfl) T.z_sorted (by decide +kernel) (pa_cons (pe_lc (own := [("door", 4)]) rfl (sc_Sort_init).nd (pi_sq (pv 2)) (blkOk_by (own := [("door", 4)]) (N := n_Sort_init) (sc := defScope s_Sort_init) (by decide +kernel)) (fun _ _ _ _ _ => (pg_name (i := 4) (sc_Sort_init).nd rfl (Or.inl rfl))) (fun _ _ _ _ _ => pts_nil) (fun _ _ _ _ _ => (pe_call (ok_plain_door T) (hr.mono (by decide)) (by rfl) T.g_plain_door T.k_plain_door T.b_plain_door .nil pass0 (pa_cons (pv 4) pa_nil)))) pa_nil)) rfl))), ?_⟩
    walk_at "go"
    refine s_lcSI (xs := rs.map V.str) (fun D k acc H' => Same H H' ∧ acc = (rs.map V.str).take k) hr0 ?_ ?_ ?_ ?_
    · intro D H' _ sm _
      exact ⟨sm, rfl⟩
    · rintro D k acc H' o _ ⟨sm, _⟩ e
      exact sm _ _ e
    · rintro D k acc y H' hD hk hl hA ⟨sm, rfl⟩
      obtain ⟨hk1, hk2⟩ := List.getElem?_eq_some_iff.mp hk
      obtain ⟨z, hz, rfl⟩ : ∃ z, z ∈ rs ∧ y = .str z := by
        obtain ⟨z, hz, e⟩ := List.mem_map.mp (List.mem_of_getElem? hk)
        exact ⟨z, hz, e.symm⟩
      walk_at "xs"
      refine s_acc hA hl (by rw [List.length_map] at hk1; omega) fun H'' s'' e'' => ⟨Same.mut sm s'' hD, ?_⟩
      rw [List.take_succ_eq_append_getElem hk1, hk2]
    · rintro D acc H1 hD hl hA ⟨sm1, rfl⟩
      rw [List.take_length] at hA
      walk_at "xs"
      refine s_sortS (xs := rs) (SqL.of hA) (by omega) fun ys py ly => ?_
      refine s_no fun ra H2 hra sm2 e2 => ?_
      walk_at "xs"
      have hx2 := sm2 _ _ (sm1 _ _ hx)
      refine s_fldW hx2 cl n1 (by decide) ?_
      refine s_mu fun H3 s3 e3 => ?_
      have s13 : Sb x H H3 := (Sb.of_same (sm1.trans sm2)).trans s3
      have hd3 : Sq H3 d ts := ((hd0.same sm1).same sm2).sb hx2 s3
      have hdd3 : DoorsAt H3 ts ds := ((hdd.same sm1).same sm2).sb s3 (noT_ins hx2)
      have hra0 : H ra = none := sm1.free hra
      have rax : ra ≠ x := ne_of e2 hx2 (by intro z; cases z)
      have e23 := s3.look rax e2
      walk_at "xs"
      refine s_lcSI (xs := ts) (fun D k acc H' => Same H3 H' ∧ DoorsAt H' acc (ds.take k)) hd3 ?_ ?_ ?_ ?_
      · intro D H' _ sm _
        exact ⟨sm, .nil⟩
      · rintro D k acc H' o _ ⟨sm, _⟩ e
        exact sm _ _ e
      · rintro D k acc y H' hD hk hl hA ⟨sm, hda⟩
        obtain ⟨hk1, hk2⟩ := List.getElem?_eq_some_iff.mp hk
        obtain ⟨hk3, hdk⟩ := Each.at hdd3 hk1
        rw [hk2] at hdk
        walk_at "xs"
        refine ⟨_, _, rfl, hdk.same sm, fun t H4 ht sm4 e4 => ?_⟩
        walk_at "xs"
        have hA4 := sm4 _ _ hA
        refine s_acc hA4 hl (by omega) fun H'' s'' e'' => ⟨Same.mut (Same.trans sm sm4) s'' hD, ?_⟩
        rw [List.take_succ_eq_append_getElem hk3]
        have nD : t ≠ D := ne_of e4 hA4 (by intro z; cases z)
        exact DoorsAt.snoc ⟨t, rfl, s''.look nD e4⟩ ((hda.same sm4).sb s'' (noT_of hA4))
      · rintro D2 acc H4 hD2 hl hA ⟨sm4, hda⟩
        rw [show ts.length = ds.length from Each.len hdd, List.take_length] at hda
        walk_at "xs"
        refine s_sortDoors (SqL.of hA) hda pd ok.dr fun ts' hts => ?_
        refine s_no fun da H5 hda5 sm5 e5 => ?_
        walk_at "xs"
        have hx5 := sm5 _ _ (sm4 _ _ e3)
        refine s_fldW hx5 cl n2 (by simp [putF]) ?_
        refine s_mu fun H6 s6 e6 => ?_
        have hda0 : H da = none := by
          have z : H3 da = none := sm4.free hda5
          exact s13.free (ne_of_none e3 z).symm z
        have dax : da ≠ x := ne_of e5 hx5 (by intro z; cases z)
        have ey : ys = S.rooms := perm_eq (R := sLe) sLe_anti (py.trans pr) ly ok.rs
        rw [ey] at e23
        refine k H6 ra da ts' hra0 hda0 e6 (s6.look rax (sm5 _ _ (sm4 _ _ e23))) (s6.look dax e5) ((hts.same sm5).sb s6 (noT_ins hx5)) ?_
        exact ((s13.trans (Sb.of_same (sm4.trans sm5))).trans s6)

end LH
end
section
set_option maxRecDepth 100000
set_option maxHeartbeats 4000000
namespace LH
open PySem L2
local macro_rules | `(tactic| walk_at "ne") => `(tactic| first
  | assumption
  | (refine' Ne.symm ?hz; (case hz => assumption)))
local macro_rules | `(tactic| walk_at "hp") => `(tactic| first
  | assumption
  | exact upd_same
  | (refine' Same.look (by assumption) ?hz; (case hz => walk_at "hp"))
  | (refine' Sb.look (by assumption) ?hn ?hz; (case hn => walk_at "ne"); (case hz => walk_at "hp"))
  | (refine' upd_new ?hz (by assumption); (case hz => walk_at "hp"))
  | (refine' upd_keep ?hz (by assumption); (case hz => walk_at "hp"))
  | (refine' upd_keep' ?hz (by assumption); (case hz => walk_at "hp")))
local macro_rules | `(tactic| walk_at "sb") => `(tactic| first
  | assumption
  | exact Sb.refl _ _
  | exact Same.refl _
  | (refine' Sb.of_same ?hz; (case hz => assumption))
  | (refine' Sb.trans ?hz (Sb.of_same (by assumption)); (case hz => walk_at "sb"))
  | (refine' Sb.trans ?hz (by assumption); (case hz => walk_at "sb"))
  | (refine' Sb.mut ?hz (by assumption) ?hn; (case hz => walk_at "sb"); (case hn => walk_at "fr"))
  | (refine' Same.trans ?hz (by assumption); (case hz => walk_at "sb"))
  | (refine' Same.mut ?hz (by assumption) ?hn; (case hz => walk_at "sb"); (case hn => walk_at "fr")))
local macro_rules | `(tactic| walk_at "fr") => `(tactic| first
  | assumption
  | (refine' Same.free' (by assumption) ?hz; (case hz => walk_at "fr"))
  | (refine' Sb.free (by assumption) ?hn ?hz; (case hz => walk_at "fr"); (case hn => walk_at "ne")))
local macro_rules | `(tactic| walk_at "pn") => `(tactic| first
  | assumption
  | (refine' Pen.same ?hz (by assumption); (case hz => walk_at "pn"))
  | (refine' Pen.sb ?hz (by assumption) ?hn ?hm; (case hz => walk_at "pn"); (case hn => walk_at "ne"); (case hm => walk_at "ne")))
local macro_rules | `(tactic| walk_at "sq") => `(tactic| first
  | assumption
  | (refine' SqL.of ?hz; (case hz => walk_at "hp"))
  | (refine' SqT.of ?hz; (case hz => walk_at "hp"))
  | (refine' Or.inl (SqL.of ?hz); (case hz => walk_at "hp"))
  | (refine' Or.inr (SqT.of ?hz); (case hz => walk_at "hp"))
  | (refine' Or.inl ?hz; (case hz => assumption))
  | (refine' Or.inr ?hz; (case hz => assumption)))
local macro_rules | `(tactic| walk_at "ar") => `(tactic| first
  | assumption
  | decide
  | omega
  | exact ⟨by omega, by omega⟩
  | exact Or.inl ⟨by omega, by omega⟩
  | exact Or.inr ⟨by omega, by omega⟩
  | exact ⟨by decide, by decide, by decide⟩)
local macro_rules | `(tactic| walk_at "lk") => `(tactic| first
  | assumption
  | exact sortF_rooms _ _
  | exact sortF_doors _ _
  | exact streetF_left _ _ _ _
  | exact streetF_first _ _ _ _
  | exact streetF_odd _ _ _ _
  | exact streetF_right _ _ _ _
  | exact sortF_no _ _ (by decide +kernel) (by decide +kernel)
  | exact streetF_no _ _ _ _ (by decide +kernel) (by decide +kernel) (by decide +kernel) (by decide +kernel))
local macro_rules | `(tactic| walk_at "x1") => `(tactic| first
  | (with_reducible refine' s_seq ?_)
  | ((with_reducible refine' s_var ?hv ?_); (case hv => exact rfl))
  | (with_reducible refine' s_c ?_)
  | (with_reducible refine' s_op ?_)
  | (with_reducible refine' s_asg ?_)
  | (with_reducible refine' s_ret ?_)
  | (with_reducible refine' s_I0 ?_)
  | ((with_reducible refine' s_I ?hc ?_); (case hc => walk_at "ar"))
  | (with_reducible refine' s_test ?_)
  | (with_reducible refine' s_bl ?_)
  | (with_reducible refine' s_ifS ?_)
  | (with_reducible refine' s_next ?_)
  | (with_reducible refine' s_dget ?_)
  | (with_reducible refine' s_cons ?_)
  | (with_reducible refine' s_nil ?_)
  | (with_reducible refine' s_CB ?_)
  | (with_reducible refine' s_lst ?_)
  | (with_reducible refine' s_tup ?_)
  | ((with_reducible refine' s_mkL ?hl ?_); (case hl => first | exact (Nat.le_of_ble_eq_true rfl) | omega))
  | ((with_reducible refine' s_mkT ?hl ?_); (case hl => first | exact (Nat.le_of_ble_eq_true rfl) | omega))
  | (with_reducible refine' s_drop ?_)
  | (with_reducible refine' s_and ?_)
  | (with_reducible refine' s_or ?_)
  | (with_reducible refine' s_not ?_)
  | (with_reducible refine' s_if ?_)
  | (with_reducible refine' s_un ?_)
  | (with_reducible refine' s_rU ?_)
  | (with_reducible refine' s_B ?_)
  | (with_reducible refine' s_yes ?_)
  | (with_reducible refine' s_andV ?_)
  | (with_reducible refine' s_orV ?_)
  | (with_reducible refine' s_notV ?_)
  | (with_reducible refine' s_chain ?_)
  | (with_reducible refine' s_disp ?_)
  | (with_reducible refine' s_pcons ?_)
  | (with_reducible refine' s_pnil ?_)
  | (with_reducible refine' s_dput ?_)
  | (with_reducible refine' s_sl ?_)
  | (with_reducible refine' s_noPart ?_)
  | (with_reducible refine' s_part ?_)
  | (with_reducible refine' s_pt ?_)
  | (with_reducible refine' s_bm ?_)
  | (with_reducible refine' s_bm0 ?_)
  | (with_reducible refine' s_fld ?_)
  | (with_reducible refine' s_fldS ?_)
  | (with_reducible refine' s_par ?_)
  | (with_reducible refine' s_pair ?_)
  | (with_reducible refine' s_par3 ?_)
  | (with_reducible refine' s_tri ?_)
  | (with_reducible refine' s_asgT ?_)
  | (with_reducible refine' s_gName ?_)
  | (with_reducible refine' s_gNil ?_)
  | (with_reducible refine' s_gCons ?_)
  | (with_reducible refine' s_retN ?_)
  | (with_reducible refine' s_call1 ?_)
  | (with_reducible refine' s_eqI ?_)
  | (with_reducible refine' s_neI ?_)
  | (with_reducible refine' s_eqS ?_)
  | (with_reducible refine' s_neS ?_)
  | (with_reducible refine' s_abs ?_)
  | (with_reducible refine' s_strS ?_)
  | (with_reducible refine' s_wt ?_)
  | (with_reducible refine' s_forR ?_)
  | (with_reducible refine' s_forL ?_)
  | (with_reducible refine' s_lcR ?_)
  | (with_reducible refine' s_lcL ?_)
  | (with_reducible refine' s_lcT ?_)
  | (with_reducible refine' s_m1 ?_)
  | (with_reducible refine' s_str ?_)
  | (with_reducible refine' s_gSub ?_)
  | (with_reducible refine' s_dnew ?_)
  | (with_reducible refine' s_lcS ?_)
  | (with_reducible refine' s_make ?_)
  | (with_reducible refine' s_intI ?_)
  | ((with_reducible refine' s_gTup ?hs ?hl ?_); (case hs => walk_at "sq"); (case hl => exact rfl))
  | (with_reducible refine' s_itT ?_)
  | (with_reducible refine' s_itF ?_)
  | ((with_reducible refine' s_dgetS ?hp ?he ?_); (case hp => walk_at "hp"); (case he => first | exact penK_rest _ _ _ | exact penK_turn _ _ _ | exact penK_cells _ _ _ | exact sortK_rooms _ _ | exact sortK_doors _ _ | exact streetK_left _ _ _ _ | exact streetK_first _ _ _ _ | exact streetK_odd _ _ _ _ | exact streetK_right _ _ _ _ | assumption))
  | ((with_reducible refine' s_dputS ?hp ?he ?hl ?_); (case hp => walk_at "hp"); (case he => first | exact put_turn _ _ _ _ | exact put_rest _ _ _ _ | exact rfl); (case hl => exact small1000 (Nat.le_of_ble_eq_true rfl)))
  | ((with_reducible refine' s_ixL ?hs ?he ?_); (case hs => walk_at "sq"); (case he => first | assumption | exact rfl))
  | ((with_reducible refine' s_ixT ?hs ?he ?_); (case hs => walk_at "sq"); (case he => first | assumption | exact rfl))
  | ((with_reducible refine' s_lenL ?hs ?_); (case hs => walk_at "sq"))
  | ((with_reducible refine' s_lenZ ?hs ?_); (case hs => assumption))
  | ((with_reducible refine' s_ixS ?hs ?he ?_); (case hs => assumption); (case he => first | assumption | exact rfl))
  | ((with_reducible refine' s_lstOf ?hs ?_); (case hs => walk_at "sq"))
  | ((with_reducible refine' s_slL ?hs ?_); (case hs => walk_at "sq"))
  | ((with_reducible refine' s_tyL ?hs ?_); (case hs => walk_at "sq"))
  | ((with_reducible refine' s_append ?hp ?hl ?_); (case hp => walk_at "hp"); (case hl => walk_at "ar"))
  | ((with_reducible refine' s_neL ?ha ?hb ?h0 ?_); (case ha => walk_at "sq"); (case hb => walk_at "sq"); (case h0 => first | exact Or.inr rfl | exact Or.inl rfl))
  | ((with_reducible refine' s_eqL ?ha ?hb ?h0 ?_); (case ha => walk_at "sq"); (case hb => walk_at "sq"); (case h0 => first | exact Or.inr rfl | exact Or.inl rfl))
  | ((with_reducible refine' s_clear ?hp ?_); (case hp => walk_at "hp"))
  | ((with_reducible refine' s_reverse ?hp ?_); (case hp => walk_at "hp"))
  | ((with_reducible refine' s_fldV ?hp ?hc ?hn ?he ?_); (case hp => walk_at "hp"); (case hc => assumption); (case hn => assumption); (case he => walk_at "lk"))
  | (with_reducible refine' s_methO ?_)
  | ((with_reducible refine' s_methV ?hp ?hn ?_); (case hp => walk_at "hp"); (case hn => walk_at "lk"))
  )
local macro_rules | `(tactic| walk_at "xs") => `(tactic| repeat (walk_at "x1"))
local macro_rules | `(tactic| walk_at "go") => `(tactic| ((try dsimp only [cxOf, Cx.nox, Cx.wish]); walk_at "xs"))
local macro_rules | `(tactic| walk_at "xu") => `(tactic| repeat (first | walk_at "x1" | (with_reducible refine' s_muU ?_)))

def spRooms (C : Addr) : Sp := fun vs H Q _ => ∃ (v : V) (S : SData), vs = [v] ∧ SortO C (fun _ => False) H v S ∧ ∀ l H', H l = none → Same H H' → H' l = some (.lst (S.rooms.map V.str)) → Q (.ref l) H'
theorem ok_Sort_rooms {P : Program} {w : World} {K : PySem.W.Frag} {mg : Str → Option Value} {base : Heap} (T : Tx K mg) : FnOk P w K mg base CX0 1 T.a_Sort_rooms T.fd_Sort_rooms ["self"] ((spRooms T.c_Sort)) := by
  refine T.F_Sort_rooms.ok sc_Sort_rooms (fun vs H Q E h => ?_) (fun cdv A outer s H vs Q E hr h => ?_)
  · obtain ⟨v, S, rfl, _⟩ := h
    rfl
  · obtain ⟨v, S, rfl, ⟨x, dx, ra, da, ts, rfl, _, h1, h2, h3, h4⟩, k⟩ := h
    have cl := T.cl_Sort
    have n1 := T.na_Sort_rooms
    refine ⟨_, (pss_one (ps_ret (pe_callTy call_lstOf (by rfl) T.z_list (by decide +kernel) (pa_cons (pe_fld (pv 0) rfl) pa_nil)))), ?_⟩
    walk_at "go"
    exact s_no k
def spDoors (C : Addr) : Sp := fun vs H Q _ => ∃ (v : V) (S : SData), vs = [v] ∧ SortO C (fun _ => False) H v S ∧ ∀ l ts H', H l = none → Same H H' → H' l = some (.lst ts) → DoorsAt H' ts S.doors → Q (.ref l) H'
theorem ok_Sort_doors {P : Program} {w : World} {K : PySem.W.Frag} {mg : Str → Option Value} {base : Heap} (T : Tx K mg) : FnOk P w K mg base CX0 1 T.a_Sort_doors T.fd_Sort_doors ["self"] ((spDoors T.c_Sort)) := by
  refine T.F_Sort_doors.ok sc_Sort_doors (fun vs H Q E h => ?_) (fun cdv A outer s H vs Q E hr h => ?_)
  · obtain ⟨v, S, rfl, _⟩ := h
    rfl
  · obtain ⟨v, S, rfl, ⟨x, dx, ra, da, ts, rfl, _, h1, h2, h3, h4⟩, k⟩ := h
    have cl := T.cl_Sort
    have n1 := T.na_Sort_doors
    refine ⟨_, (pss_one (ps_ret (pe_callTy call_lstOf (by rfl) T.z_list (by decide +kernel) (pa_cons (pe_fld (pv 0) rfl) pa_nil)))), ?_⟩
    walk_at "go"
    exact s_no fun p H' hp sm e => k p ts H' hp sm e (h4.same sm)
def spSame (C : Addr) : Sp := fun vs H Q _ => ∃ (v : V) (S : SData), vs = [v] ∧ SortO C (fun _ => False) H v S ∧ SOk S ∧ ∀ v' H', SortO C (fun q => H q ≠ none) H' v' S → Same H H' → Q v' H'
theorem ok_same_sort {P : Program} {w : World} {K : PySem.W.Frag} {mg : Str → Option Value} {base : Heap} (T : Tx K mg) : FnOk P w K mg base CX0 4 T.a_same_sort T.fd_same_sort ["sort"] ((spSame T.c_Sort)) := by
  refine T.F_same_sort.ok sc_same_sort (fun vs H Q E h => ?_) (fun cdv A outer s H vs Q E hr h => ?_)
  · obtain ⟨v, S, rfl, _⟩ := h
    rfl
  · obtain ⟨v, S, rfl, hS, ok, k⟩ := h
    have hS0 := hS
    obtain ⟨x, dx, ra, da, ts, rfl, _, h1, h2, h3, h4⟩ := hS
    refine ⟨_, (pss_one (ps_ret (pe_make T.M_Sort (ok_Sort_init T) (hr.mono (by decide)) (by rfl) T.mg_Sort T.b_Sort_init .nil pass0 (pa_cons (pe_meth0 (pv 0) T.cl_Sort T.m_Sort_rooms (ok_Sort_rooms T) (hr.mono (by decide)) T.b_Sort_rooms .nil pass0) (pa_cons (pe_meth0 (pv 0) T.cl_Sort T.m_Sort_doors (ok_Sort_doors T) (hr.mono (by decide)) T.b_Sort_doors .nil pass0) pa_nil))))), ?_⟩
    walk_at "go"
    refine ⟨_, S, rfl, hS0, fun l1 H1 hl1 sm1 e1 => ?_⟩
    walk_at "xs"
    refine ⟨_, S, rfl, hS0.same sm1, fun l2 ts2 H2 hl2 sm2 e2 d2 => ?_⟩
    walk_at "xs"
    refine s_mkO fun y dy H3 hy hdy sm3 e3 => ?_
    refine ⟨y, dy, l1, l2, S.rooms, ts2, S.doors, S, rfl, e3, .inl (sm3 _ _ (sm2 _ _ e1)), .inl (sm3 _ _ e2), d2.same sm3, ok, .refl _, .refl _, fun H4 ra' da' ts' f1 f2 f3 f4 f5 f6 f7 => ⟨rfl, ?_⟩⟩
    have s12 : Same H H2 := Same.trans sm1 sm2
    have s13 : Same H H3 := Same.trans s12 sm3
    refine k _ _ ⟨y, dy, ra', da', ts', rfl, ⟨fun z => z (s12.free hy), fun z => z (s13.free f1), fun z => z (s13.free f2)⟩, f3, f4, f5, f6⟩ ?_
    exact Same.trans s12 fun b o e => f7 b o (ne_of_none e hy) (sm3 b o e)

end LH
end
section
set_option maxRecDepth 100000
set_option maxHeartbeats 4000000
namespace LH
open PySem L2
local macro_rules | `(tactic| walk_at "ne") => `(tactic| first
  | assumption
  | (refine' Ne.symm ?hz; (case hz => assumption)))
local macro_rules | `(tactic| walk_at "hp") => `(tactic| first
  | assumption
  | exact upd_same
  | (refine' Same.look (by assumption) ?hz; (case hz => walk_at "hp"))
  | (refine' Sb.look (by assumption) ?hn ?hz; (case hn => walk_at "ne"); (case hz => walk_at "hp"))
  | (refine' upd_new ?hz (by assumption); (case hz => walk_at "hp"))
  | (refine' upd_keep ?hz (by assumption); (case hz => walk_at "hp"))
  | (refine' upd_keep' ?hz (by assumption); (case hz => walk_at "hp")))
local macro_rules | `(tactic| walk_at "sb") => `(tactic| first
  | assumption
  | exact Sb.refl _ _
  | exact Same.refl _
  | (refine' Sb.of_same ?hz; (case hz => assumption))
  | (refine' Sb.trans ?hz (Sb.of_same (by assumption)); (case hz => walk_at "sb"))
  | (refine' Sb.trans ?hz (by assumption); (case hz => walk_at "sb"))
  | (refine' Sb.mut ?hz (by assumption) ?hn; (case hz => walk_at "sb"); (case hn => walk_at "fr"))
  | (refine' Same.trans ?hz (by assumption); (case hz => walk_at "sb"))
  | (refine' Same.mut ?hz (by assumption) ?hn; (case hz => walk_at "sb"); (case hn => walk_at "fr")))
local macro_rules | `(tactic| walk_at "fr") => `(tactic| first
  | assumption
  | (refine' Same.free' (by assumption) ?hz; (case hz => walk_at "fr"))
  | (refine' Sb.free (by assumption) ?hn ?hz; (case hz => walk_at "fr"); (case hn => walk_at "ne")))
local macro_rules | `(tactic| walk_at "pn") => `(tactic| first
  | assumption
  | (refine' Pen.same ?hz (by assumption); (case hz => walk_at "pn"))
  | (refine' Pen.sb ?hz (by assumption) ?hn ?hm; (case hz => walk_at "pn"); (case hn => walk_at "ne"); (case hm => walk_at "ne")))
local macro_rules | `(tactic| walk_at "sq") => `(tactic| first
  | assumption
  | (refine' SqL.of ?hz; (case hz => walk_at "hp"))
  | (refine' SqT.of ?hz; (case hz => walk_at "hp"))
  | (refine' Or.inl (SqL.of ?hz); (case hz => walk_at "hp"))
  | (refine' Or.inr (SqT.of ?hz); (case hz => walk_at "hp"))
  | (refine' Or.inl ?hz; (case hz => assumption))
  | (refine' Or.inr ?hz; (case hz => assumption)))
local macro_rules | `(tactic| walk_at "ar") => `(tactic| first
  | assumption
  | decide
  | omega
  | exact ⟨by omega, by omega⟩
  | exact Or.inl ⟨by omega, by omega⟩
  | exact Or.inr ⟨by omega, by omega⟩
  | exact ⟨by decide, by decide, by decide⟩)
local macro_rules | `(tactic| walk_at "lk") => `(tactic| first
  | assumption
  | exact sortF_rooms _ _
  | exact sortF_doors _ _
  | exact streetF_left _ _ _ _
  | exact streetF_first _ _ _ _
  | exact streetF_odd _ _ _ _
  | exact streetF_right _ _ _ _
  | exact sortF_no _ _ (by decide +kernel) (by decide +kernel)
  | exact streetF_no _ _ _ _ (by decide +kernel) (by decide +kernel) (by decide +kernel) (by decide +kernel))
local macro_rules | `(tactic| walk_at "x1") => `(tactic| first
  | (with_reducible refine' s_seq ?_)
  | ((with_reducible refine' s_var ?hv ?_); (case hv => exact rfl))
  | (with_reducible refine' s_c ?_)
  | (with_reducible refine' s_op ?_)
  | (with_reducible refine' s_asg ?_)
  | (with_reducible refine' s_ret ?_)
  | (with_reducible refine' s_I0 ?_)
  | ((with_reducible refine' s_I ?hc ?_); (case hc => walk_at "ar"))
  | (with_reducible refine' s_test ?_)
  | (with_reducible refine' s_bl ?_)
  | (with_reducible refine' s_ifS ?_)
  | (with_reducible refine' s_next ?_)
  | (with_reducible refine' s_dget ?_)
  | (with_reducible refine' s_cons ?_)
  | (with_reducible refine' s_nil ?_)
  | (with_reducible refine' s_CB ?_)
  | (with_reducible refine' s_lst ?_)
  | (with_reducible refine' s_tup ?_)
  | ((with_reducible refine' s_mkL ?hl ?_); (case hl => first | exact (Nat.le_of_ble_eq_true rfl) | omega))
  | ((with_reducible refine' s_mkT ?hl ?_); (case hl => first | exact (Nat.le_of_ble_eq_true rfl) | omega))
  | (with_reducible refine' s_drop ?_)
  | (with_reducible refine' s_and ?_)
  | (with_reducible refine' s_or ?_)
  | (with_reducible refine' s_not ?_)
  | (with_reducible refine' s_if ?_)
  | (with_reducible refine' s_un ?_)
  | (with_reducible refine' s_rU ?_)
  | (with_reducible refine' s_B ?_)
  | (with_reducible refine' s_yes ?_)
  | (with_reducible refine' s_andV ?_)
  | (with_reducible refine' s_orV ?_)
  | (with_reducible refine' s_notV ?_)
  | (with_reducible refine' s_chain ?_)
  | (with_reducible refine' s_disp ?_)
  | (with_reducible refine' s_pcons ?_)
  | (with_reducible refine' s_pnil ?_)
  | (with_reducible refine' s_dput ?_)
  | (with_reducible refine' s_sl ?_)
  | (with_reducible refine' s_noPart ?_)
  | (with_reducible refine' s_part ?_)
  | (with_reducible refine' s_pt ?_)
  | (with_reducible refine' s_bm ?_)
  | (with_reducible refine' s_bm0 ?_)
  | (with_reducible refine' s_fld ?_)
  | (with_reducible refine' s_fldS ?_)
  | (with_reducible refine' s_par ?_)
  | (with_reducible refine' s_pair ?_)
  | (with_reducible refine' s_par3 ?_)
  | (with_reducible refine' s_tri ?_)
  | (with_reducible refine' s_asgT ?_)
  | (with_reducible refine' s_gName ?_)
  | (with_reducible refine' s_gNil ?_)
  | (with_reducible refine' s_gCons ?_)
  | (with_reducible refine' s_retN ?_)
  | (with_reducible refine' s_call1 ?_)
  | (with_reducible refine' s_eqI ?_)
  | (with_reducible refine' s_neI ?_)
  | (with_reducible refine' s_eqS ?_)
  | (with_reducible refine' s_neS ?_)
  | (with_reducible refine' s_abs ?_)
  | (with_reducible refine' s_strS ?_)
  | (with_reducible refine' s_wt ?_)
  | (with_reducible refine' s_forR ?_)
  | (with_reducible refine' s_forL ?_)
  | (with_reducible refine' s_lcR ?_)
  | (with_reducible refine' s_lcL ?_)
  | (with_reducible refine' s_lcT ?_)
  | (with_reducible refine' s_m1 ?_)
  | (with_reducible refine' s_str ?_)
  | (with_reducible refine' s_gSub ?_)
  | (with_reducible refine' s_dnew ?_)
  | (with_reducible refine' s_lcS ?_)
  | (with_reducible refine' s_make ?_)
  | (with_reducible refine' s_intI ?_)
  | ((with_reducible refine' s_gTup ?hs ?hl ?_); (case hs => walk_at "sq"); (case hl => exact rfl))
  | (with_reducible refine' s_itT ?_)
  | (with_reducible refine' s_itF ?_)
  | ((with_reducible refine' s_dgetS ?hp ?he ?_); (case hp => walk_at "hp"); (case he => first | exact penK_rest _ _ _ | exact penK_turn _ _ _ | exact penK_cells _ _ _ | exact sortK_rooms _ _ | exact sortK_doors _ _ | exact streetK_left _ _ _ _ | exact streetK_first _ _ _ _ | exact streetK_odd _ _ _ _ | exact streetK_right _ _ _ _ | assumption))
  | ((with_reducible refine' s_dputS ?hp ?he ?hl ?_); (case hp => walk_at "hp"); (case he => first | exact put_turn _ _ _ _ | exact put_rest _ _ _ _ | exact rfl); (case hl => exact small1000 (Nat.le_of_ble_eq_true rfl)))
  | ((with_reducible refine' s_ixL ?hs ?he ?_); (case hs => walk_at "sq"); (case he => first | assumption | exact rfl))
  | ((with_reducible refine' s_ixT ?hs ?he ?_); (case hs => walk_at "sq"); (case he => first | assumption | exact rfl))
  | ((with_reducible refine' s_lenL ?hs ?_); (case hs => walk_at "sq"))
  | ((with_reducible refine' s_lenZ ?hs ?_); (case hs => assumption))
  | ((with_reducible refine' s_ixS ?hs ?he ?_); (case hs => assumption); (case he => first | assumption | exact rfl))
  | ((with_reducible refine' s_lstOf ?hs ?_); (case hs => walk_at "sq"))
  | ((with_reducible refine' s_slL ?hs ?_); (case hs => walk_at "sq"))
  | ((with_reducible refine' s_tyL ?hs ?_); (case hs => walk_at "sq"))
  | ((with_reducible refine' s_append ?hp ?hl ?_); (case hp => walk_at "hp"); (case hl => walk_at "ar"))
  | ((with_reducible refine' s_neL ?ha ?hb ?h0 ?_); (case ha => walk_at "sq"); (case hb => walk_at "sq"); (case h0 => first | exact Or.inr rfl | exact Or.inl rfl))
  | ((with_reducible refine' s_eqL ?ha ?hb ?h0 ?_); (case ha => walk_at "sq"); (case hb => walk_at "sq"); (case h0 => first | exact Or.inr rfl | exact Or.inl rfl))
  | ((with_reducible refine' s_clear ?hp ?_); (case hp => walk_at "hp"))
  | ((with_reducible refine' s_reverse ?hp ?_); (case hp => walk_at "hp"))
  | ((with_reducible refine' s_fldV ?hp ?hc ?hn ?he ?_); (case hp => walk_at "hp"); (case hc => assumption); (case hn => assumption); (case he => walk_at "lk"))
  | (with_reducible refine' s_methO ?_)
  | ((with_reducible refine' s_methV ?hp ?hn ?_); (case hp => walk_at "hp"); (case hn => walk_at "lk"))
  )
local macro_rules | `(tactic| walk_at "xs") => `(tactic| repeat (walk_at "x1"))
local macro_rules | `(tactic| walk_at "go") => `(tactic| ((try dsimp only [cxOf, Cx.nox, Cx.wish]); walk_at "xs"))
local macro_rules | `(tactic| walk_at "xu") => `(tactic| repeat (first | walk_at "x1" | (with_reducible refine' s_muU ?_)))

def spStreetInit (CS CT : Addr) : Sp := fun vs H Q _ => ∃ (x dx o : Addr) (lv rv : V) (os : List V) (T : TData), vs = [.ref x, lv, .int T.first, .ref o, rv] ∧ H x = some (.ins CT dx []) ∧ SortO CS (fun _ => False) H lv T.left ∧ SortO CS (fun _ => False) H rv T.right ∧ Sq H o os ∧ PySem.W.EachIs (SortO CS (fun _ => False) H) os T.odd ∧ TOk T ∧
  ∀ H' oa lv' rv' os', H oa = none → H' x = some (.ins CT dx (streetF lv' T.first oa rv')) → SortO CS (fun q => H q ≠ none) H' lv' T.left → SortO CS (fun q => H q ≠ none) H' rv' T.right → H' oa = some (.lst os') → PySem.W.EachIs (SortO CS (fun q => H q ≠ none) H') os' T.odd → Sb x H H' → Q .non H'
theorem ok_Street_init {P : Program} {w : World} {K : PySem.W.Frag} {mg : Str → Option Value} {base : Heap} (T : Tx K mg) : FnOk P w K mg base CX0 5 T.a_Street_init T.fd_Street_init ["self", "left", "first", "odd", "right"] ((spStreetInit T.c_Sort T.c_Street)) := by
  refine T.F_Street_init.ok sc_Street_init (fun vs H Q E h => ?_) (fun cdv A outer s H vs Q E hr h => ?_)
  · obtain ⟨x, dx, o, lv, rv, os, D, rfl, _⟩ := h
    rfl
  · obtain ⟨x, dx, o, lv, rv, os, D, rfl, hx, hL, hR, ho, hO, ok, k⟩ := h
    have cl := T.cl_Street
    have n1 := T.na_Street_left
    have n2 := T.na_Street_first
    have n3 := T.na_Street_odd
    have n4 := T.na_Street_right
    have hL' := hL.avoid hx rfl
    have hR' := hR.avoid hx rfl
    have hO' := Each.imp (fun v y (z : SortO T.c_Sort (fun _ => False) H v y) => z.avoid hx rfl) hO
    have wk : ∀ (q : Addr), False → q = x := fun q z => z.elim
    have avx : H x ≠ none := by rw [hx]; exact fun z => nomatch z
    refine ⟨_, (pss_cons (ps_fld (pv 0) (pe_call (ok_same_sort T) (hr.mono (by decide)) (by rfl) T.g_same_sort T.k_same_sort T.b_same_sort .nil pass0 (pa_cons (pv 1) pa_nil)) rfl)
      (pss_cons (ps_fld (pv 0) (pe_callTy call_intI (by rfl) T.z_int (by decide +kernel) (pa_cons (pv 2) pa_nil)) rfl)
      (pss_cons (ps_fld (pv 0) (pe_lc (own := [("sort", 5)]) rfl (sc_Street_init).nd (pi_sq (pv 3)) (blkOk_by (own := [("sort", 5)]) (N := n_Street_init) (sc := defScope s_Street_init) (by decide +kernel)) (fun _ _ _ _ _ => (pg_name (i := 5) (sc_Street_init).nd rfl (Or.inl rfl))) (fun _ _ _ _ _ => pts_nil) (fun _ _ _ _ _ => (pe_call (ok_same_sort T) (hr.mono (by decide)) (by rfl) T.g_same_sort T.k_same_sort T.b_same_sort .nil pass0 (pa_cons (pv 5) pa_nil)))) rfl)
      (pss_one (ps_fld (pv 0) (pe_call (ok_same_sort T) (hr.mono (by decide)) (by rfl) T.g_same_sort T.k_same_sort T.b_same_sort .nil pass0 (pa_cons (pv 4) pa_nil)) rfl))))), ?_⟩
    walk_at "go"
    refine ⟨_, D.left, rfl, hL, ok.l, fun v1 H1 so1 sm1 => ?_⟩
    walk_at "xs"
    have hx1 := sm1 _ _ hx
    refine s_fldW hx1 cl n1 (by decide) ?_
    refine s_mu fun H2 s2 e2 => ?_
    have so2 := so1.mut avx (noT_ins hx1) s2
    have hR2 := (hR'.same sm1).mut rfl (noT_ins hx1) s2
    have hO2 := Each.imp (fun v y (z : SortO T.c_Sort (fun q => q = x) H v y) => (z.same sm1).mut rfl (noT_ins hx1) s2) hO'
    have ho2 := (ho.same sm1).sb hx1 s2
    have sb2 : Sb x H H2 := (Sb.of_same sm1).trans s2
    walk_at "xs"
    refine s_fldW e2 cl n2 (by simp [putF]) ?_
    refine s_mu fun H3 s3 e3 => ?_
    have so3 := so2.mut avx (noT_ins e2) s3
    have hR3 := hR2.mut rfl (noT_ins e2) s3
    have hO3 := Each.imp (fun v y (z : SortO T.c_Sort (fun q => q = x) H2 v y) => z.mut rfl (noT_ins e2) s3) hO2
    have ho3 := ho2.sb e2 s3
    have sb3 : Sb x H H3 := sb2.trans s3
    have fr3 : ∀ q, H q ≠ none → H3 q ≠ none := fun q hq => by
      by_cases c : q = x
      · rw [c, e3]; exact fun z => nomatch z
      · cases hq' : H q with
        | none => exact absurd hq' hq
        | some u => rw [sb3 q u c hq']; exact fun z => nomatch z
    have ol : os.length ≤ 8 := by rw [Each.len hO]; exact ok.n
    clear so1 so2 hR2 hO2 ho2 sb2 hL'
    walk_at "xs"
    refine s_lcSI (xs := os) (fun D2 k acc H' => Same H3 H' ∧ PySem.W.EachIs (SortO T.c_Sort (fun q => H3 q ≠ none ∨ q = D2) H') acc (D.odd.take k)) ho3 ?_ ?_ ?_ ?_
    · intro D2 H' _ sm _
      exact ⟨sm, .nil⟩
    · rintro D2 k acc H' o _ ⟨sm, _⟩ e
      exact sm _ _ e
    · rintro D2 k acc y H' hD hk hl hA ⟨sm, hda⟩
      obtain ⟨hk1, hk2⟩ := List.getElem?_eq_some_iff.mp hk
      obtain ⟨hk3, hdk⟩ := Each.at hO3 hk1
      rw [hk2] at hdk
      walk_at "xs"
      refine ⟨_, D.odd[k], rfl, (hdk.same sm).weak fun q z => z.elim, ok.o _ (List.getElem_mem _), fun v4 H4 so4 sm4 => ?_⟩
      walk_at "xs"
      have hA4 := sm4 _ _ hA
      have aD : H' D2 ≠ none := by rw [hA]; exact fun z => nomatch z
      refine s_acc hA4 hl (by omega) fun H'' s'' e'' => ⟨Same.mut (Same.trans sm sm4) s'' hD, ?_⟩
      rw [List.take_succ_eq_append_getElem hk3]
      refine Each.snoc ?_ (Each.imp (fun v y z => (z.same sm4).mut (.inr rfl) (noT_of hA4) s'') hda)
      refine (so4.mut aD (noT_of hA4) s'').weak fun q z => ?_
      rcases z with z | rfl
      · exact Same.some' sm z
      · exact aD
    · rintro oa acc H4 hoa hl hA ⟨sm4, hda⟩
      rw [show os.length = D.odd.length from Each.len hO, List.take_length] at hda
      walk_at "xs"
      have e4 := sm4 _ _ e3
      refine s_fldW e4 cl n3 (putF_lt (putF_lt (by decide))) ?_
      refine s_mu fun H5 s5 e5 => ?_
      have x3 : H3 x ≠ none := by rw [e3]; exact fun z => nomatch z
      have oax : oa ≠ x := ne_of hA e4 (by intro z; cases z)
      have hA5 := s5.look oax hA
      have so5 := (so3.same sm4).mut avx (noT_ins e4) s5
      have hR5 := (hR3.same sm4).mut rfl (noT_ins e4) s5
      have hda5 := Each.imp (fun v y (z : SortO T.c_Sort (fun q => H3 q ≠ none ∨ q = oa) H4 v y) => z.mut (.inl x3) (noT_ins e4) s5) hda
      have sb5 : Sb x H H5 := (sb3.trans (Sb.of_same sm4)).trans s5
      walk_at "xs"
      refine ⟨_, D.right, rfl, hR5.weak fun q z => z.elim, ok.r, fun v6 H6 so6 sm6 => ?_⟩
      walk_at "xs"
      have e6 := sm6 _ _ e5
      refine s_fldW e6 cl n4 (putF_lt (putF_lt (putF_lt (by decide)))) ?_
      refine s_mu fun H7 s7 e7 => ?_
      have x5 : H5 x ≠ none := by rw [e5]; exact fun z => nomatch z
      have fr5 : ∀ q, H q ≠ none → H5 q ≠ none := fun q hq => by
        by_cases c : q = x
        · rw [c]; exact x5
        · cases hq' : H q with
          | none => exact absurd hq' hq
          | some u => rw [sb5 q u c hq']; exact fun z => nomatch z
      have oa0 : H oa = none := by
        cases hq : H oa with
        | none => rfl
        | some u =>
          have := fr3 oa (by rw [hq]; exact fun z => nomatch z)
          exact absurd hoa this
      refine k H7 oa v1 v6 acc oa0 e7 ?_ ?_ (s7.look oax (sm6 _ _ hA5)) ?_ ((sb5.trans (Sb.of_same sm6)).trans s7)
      · exact (so5.same sm6).mut avx (noT_ins e6) s7
      · exact (so6.mut x5 (noT_ins e6) s7).weak fun q z => fr5 q z
      · exact Each.imp (fun v y z => ((z.same sm6).mut (.inl x3) (noT_ins e6) s7).weak fun q z => .inl (fr3 q z)) hda5

end LH
end
section
set_option maxRecDepth 100000
set_option maxHeartbeats 4000000
namespace LH
open PySem L2
local macro_rules | `(tactic| walk_at "ne") => `(tactic| first
  | assumption
  | (refine' Ne.symm ?hz; (case hz => assumption)))
local macro_rules | `(tactic| walk_at "hp") => `(tactic| first
  | assumption
  | exact upd_same
  | (refine' Same.look (by assumption) ?hz; (case hz => walk_at "hp"))
  | (refine' Sb.look (by assumption) ?hn ?hz; (case hn => walk_at "ne"); (case hz => walk_at "hp"))
  | (refine' upd_new ?hz (by assumption); (case hz => walk_at "hp"))
  | (refine' upd_keep ?hz (by assumption); (case hz => walk_at "hp"))
  | (refine' upd_keep' ?hz (by assumption); (case hz => walk_at "hp")))
local macro_rules | `(tactic| walk_at "sb") => `(tactic| first
  | assumption
  | exact Sb.refl _ _
  | exact Same.refl _
  | (refine' Sb.of_same ?hz; (case hz => assumption))
  | (refine' Sb.trans ?hz (Sb.of_same (by assumption)); (case hz => walk_at "sb"))
  | (refine' Sb.trans ?hz (by assumption); (case hz => walk_at "sb"))
  | (refine' Sb.mut ?hz (by assumption) ?hn; (case hz => walk_at "sb"); (case hn => walk_at "fr"))
  | (refine' Same.trans ?hz (by assumption); (case hz => walk_at "sb"))
  | (refine' Same.mut ?hz (by assumption) ?hn; (case hz => walk_at "sb"); (case hn => walk_at "fr")))
local macro_rules | `(tactic| walk_at "fr") => `(tactic| first
  | assumption
  | (refine' Same.free' (by assumption) ?hz; (case hz => walk_at "fr"))
  | (refine' Sb.free (by assumption) ?hn ?hz; (case hz => walk_at "fr"); (case hn => walk_at "ne")))
local macro_rules | `(tactic| walk_at "pn") => `(tactic| first
  | assumption
  | (refine' Pen.same ?hz (by assumption); (case hz => walk_at "pn"))
  | (refine' Pen.sb ?hz (by assumption) ?hn ?hm; (case hz => walk_at "pn"); (case hn => walk_at "ne"); (case hm => walk_at "ne")))
local macro_rules | `(tactic| walk_at "sq") => `(tactic| first
  | assumption
  | (refine' SqL.of ?hz; (case hz => walk_at "hp"))
  | (refine' SqT.of ?hz; (case hz => walk_at "hp"))
  | (refine' Or.inl (SqL.of ?hz); (case hz => walk_at "hp"))
  | (refine' Or.inr (SqT.of ?hz); (case hz => walk_at "hp"))
  | (refine' Or.inl ?hz; (case hz => assumption))
  | (refine' Or.inr ?hz; (case hz => assumption)))
local macro_rules | `(tactic| walk_at "ar") => `(tactic| first
  | assumption
  | decide
  | omega
  | exact ⟨by omega, by omega⟩
  | exact Or.inl ⟨by omega, by omega⟩
  | exact Or.inr ⟨by omega, by omega⟩
  | exact ⟨by decide, by decide, by decide⟩)
local macro_rules | `(tactic| walk_at "lk") => `(tactic| first
  | assumption
  | exact sortF_rooms _ _
  | exact sortF_doors _ _
  | exact streetF_left _ _ _ _
  | exact streetF_first _ _ _ _
  | exact streetF_odd _ _ _ _
  | exact streetF_right _ _ _ _
  | exact sortF_no _ _ (by decide +kernel) (by decide +kernel)
  | exact streetF_no _ _ _ _ (by decide +kernel) (by decide +kernel) (by decide +kernel) (by decide +kernel))
local macro_rules | `(tactic| walk_at "x1") => `(tactic| first
  | (with_reducible refine' s_seq ?_)
  | ((with_reducible refine' s_var ?hv ?_); (case hv => exact rfl))
  | (with_reducible refine' s_c ?_)
  | (with_reducible refine' s_op ?_)
  | (with_reducible refine' s_asg ?_)
  | (with_reducible refine' s_ret ?_)
  | (with_reducible refine' s_I0 ?_)
  | ((with_reducible refine' s_I ?hc ?_); (case hc => walk_at "ar"))
  | (with_reducible refine' s_test ?_)
  | (with_reducible refine' s_bl ?_)
  | (with_reducible refine' s_ifS ?_)
  | (with_reducible refine' s_next ?_)
  | (with_reducible refine' s_dget ?_)
  | (with_reducible refine' s_cons ?_)
  | (with_reducible refine' s_nil ?_)
  | (with_reducible refine' s_CB ?_)
  | (with_reducible refine' s_lst ?_)
  | (with_reducible refine' s_tup ?_)
  | ((with_reducible refine' s_mkL ?hl ?_); (case hl => first | exact (Nat.le_of_ble_eq_true rfl) | omega))
  | ((with_reducible refine' s_mkT ?hl ?_); (case hl => first | exact (Nat.le_of_ble_eq_true rfl) | omega))
  | (with_reducible refine' s_drop ?_)
  | (with_reducible refine' s_and ?_)
  | (with_reducible refine' s_or ?_)
  | (with_reducible refine' s_not ?_)
  | (with_reducible refine' s_if ?_)
  | (with_reducible refine' s_un ?_)
  | (with_reducible refine' s_rU ?_)
  | (with_reducible refine' s_B ?_)
  | (with_reducible refine' s_yes ?_)
  | (with_reducible refine' s_andV ?_)
  | (with_reducible refine' s_orV ?_)
  | (with_reducible refine' s_notV ?_)
  | (with_reducible refine' s_chain ?_)
  | (with_reducible refine' s_disp ?_)
  | (with_reducible refine' s_pcons ?_)
  | (with_reducible refine' s_pnil ?_)
  | (with_reducible refine' s_dput ?_)
  | (with_reducible refine' s_sl ?_)
  | (with_reducible refine' s_noPart ?_)
  | (with_reducible refine' s_part ?_)
  | (with_reducible refine' s_pt ?_)
  | (with_reducible refine' s_bm ?_)
  | (with_reducible refine' s_bm0 ?_)
  | (with_reducible refine' s_fld ?_)
  | (with_reducible refine' s_fldS ?_)
  | (with_reducible refine' s_par ?_)
  | (with_reducible refine' s_pair ?_)
  | (with_reducible refine' s_par3 ?_)
  | (with_reducible refine' s_tri ?_)
  | (with_reducible refine' s_asgT ?_)
  | (with_reducible refine' s_gName ?_)
  | (with_reducible refine' s_gNil ?_)
  | (with_reducible refine' s_gCons ?_)
  | (with_reducible refine' s_retN ?_)
  | (with_reducible refine' s_call1 ?_)
  | (with_reducible refine' s_eqI ?_)
  | (with_reducible refine' s_neI ?_)
  | (with_reducible refine' s_eqS ?_)
  | (with_reducible refine' s_neS ?_)
  | (with_reducible refine' s_abs ?_)
  | (with_reducible refine' s_strS ?_)
  | (with_reducible refine' s_wt ?_)
  | (with_reducible refine' s_forR ?_)
  | (with_reducible refine' s_forL ?_)
  | (with_reducible refine' s_lcR ?_)
  | (with_reducible refine' s_lcL ?_)
  | (with_reducible refine' s_lcT ?_)
  | (with_reducible refine' s_m1 ?_)
  | (with_reducible refine' s_str ?_)
  | (with_reducible refine' s_gSub ?_)
  | (with_reducible refine' s_dnew ?_)
  | (with_reducible refine' s_lcS ?_)
  | (with_reducible refine' s_make ?_)
  | (with_reducible refine' s_intI ?_)
  | ((with_reducible refine' s_gTup ?hs ?hl ?_); (case hs => walk_at "sq"); (case hl => exact rfl))
  | (with_reducible refine' s_itT ?_)
  | (with_reducible refine' s_itF ?_)
  | ((with_reducible refine' s_dgetS ?hp ?he ?_); (case hp => walk_at "hp"); (case he => first | exact penK_rest _ _ _ | exact penK_turn _ _ _ | exact penK_cells _ _ _ | exact sortK_rooms _ _ | exact sortK_doors _ _ | exact streetK_left _ _ _ _ | exact streetK_first _ _ _ _ | exact streetK_odd _ _ _ _ | exact streetK_right _ _ _ _ | assumption))
  | ((with_reducible refine' s_dputS ?hp ?he ?hl ?_); (case hp => walk_at "hp"); (case he => first | exact put_turn _ _ _ _ | exact put_rest _ _ _ _ | exact rfl); (case hl => exact small1000 (Nat.le_of_ble_eq_true rfl)))
  | ((with_reducible refine' s_ixL ?hs ?he ?_); (case hs => walk_at "sq"); (case he => first | assumption | exact rfl))
  | ((with_reducible refine' s_ixT ?hs ?he ?_); (case hs => walk_at "sq"); (case he => first | assumption | exact rfl))
  | ((with_reducible refine' s_lenL ?hs ?_); (case hs => walk_at "sq"))
  | ((with_reducible refine' s_lenZ ?hs ?_); (case hs => assumption))
  | ((with_reducible refine' s_ixS ?hs ?he ?_); (case hs => assumption); (case he => first | assumption | exact rfl))
  | ((with_reducible refine' s_lstOf ?hs ?_); (case hs => walk_at "sq"))
  | ((with_reducible refine' s_slL ?hs ?_); (case hs => walk_at "sq"))
  | ((with_reducible refine' s_tyL ?hs ?_); (case hs => walk_at "sq"))
  | ((with_reducible refine' s_append ?hp ?hl ?_); (case hp => walk_at "hp"); (case hl => walk_at "ar"))
  | ((with_reducible refine' s_neL ?ha ?hb ?h0 ?_); (case ha => walk_at "sq"); (case hb => walk_at "sq"); (case h0 => first | exact Or.inr rfl | exact Or.inl rfl))
  | ((with_reducible refine' s_eqL ?ha ?hb ?h0 ?_); (case ha => walk_at "sq"); (case hb => walk_at "sq"); (case h0 => first | exact Or.inr rfl | exact Or.inl rfl))
  | ((with_reducible refine' s_clear ?hp ?_); (case hp => walk_at "hp"))
  | ((with_reducible refine' s_reverse ?hp ?_); (case hp => walk_at "hp"))
  | ((with_reducible refine' s_fldV ?hp ?hc ?hn ?he ?_); (case hp => walk_at "hp"); (case hc => assumption); (case hn => assumption); (case he => walk_at "lk"))
  | (with_reducible refine' s_methO ?_)
  | ((with_reducible refine' s_methV ?hp ?hn ?_); (case hp => walk_at "hp"); (case hn => walk_at "lk"))
  )
local macro_rules | `(tactic| walk_at "xs") => `(tactic| repeat (walk_at "x1"))
local macro_rules | `(tactic| walk_at "go") => `(tactic| ((try dsimp only [cxOf, Cx.nox, Cx.wish]); walk_at "xs"))
local macro_rules | `(tactic| walk_at "xu") => `(tactic| repeat (first | walk_at "x1" | (with_reducible refine' s_muU ?_)))

def spSide (CS CT : Addr) (g : TData → SData) : Sp := fun vs H Q _ => ∃ (v : V) (D : TData), vs = [v] ∧ StreetO CS CT (fun _ => False) H v D ∧ TOk D ∧ ∀ v' H', SortO CS (fun q => H q ≠ none) H' v' (g D) → Same H H' → Q v' H'
theorem ok_Street_left {P : Program} {w : World} {K : PySem.W.Frag} {mg : Str → Option Value} {base : Heap} (T : Tx K mg) : FnOk P w K mg base CX0 5 T.a_Street_left T.fd_Street_left ["self"] ((spSide T.c_Sort T.c_Street TData.left)) := by
  refine T.F_Street_left.ok sc_Street_left (fun vs H Q E h => ?_) (fun cdv A outer s H vs Q E hr h => ?_)
  · obtain ⟨v, D, rfl, _⟩ := h
    rfl
  · obtain ⟨v, D, rfl, ⟨x, dx, oa, lv, rv, os, rfl, _, h1, h2, h3, h4, h5⟩, ok, k⟩ := h
    have cl := T.cl_Street
    have n1 := T.na_Street_left
    refine ⟨_, (pss_one (ps_ret (pe_call (ok_same_sort T) (hr.mono (by decide)) (by rfl) T.g_same_sort T.k_same_sort T.b_same_sort .nil pass0 (pa_cons (pe_fld (pv 0) rfl) pa_nil)))), ?_⟩
    walk_at "go"
    exact ⟨_, D.left, rfl, h2, ok.l, fun v' H' so sm => k v' H' so sm⟩
theorem ok_Street_right {P : Program} {w : World} {K : PySem.W.Frag} {mg : Str → Option Value} {base : Heap} (T : Tx K mg) : FnOk P w K mg base CX0 5 T.a_Street_right T.fd_Street_right ["self"] ((spSide T.c_Sort T.c_Street TData.right)) := by
  refine T.F_Street_right.ok sc_Street_right (fun vs H Q E h => ?_) (fun cdv A outer s H vs Q E hr h => ?_)
  · obtain ⟨v, D, rfl, _⟩ := h
    rfl
  · obtain ⟨v, D, rfl, ⟨x, dx, oa, lv, rv, os, rfl, _, h1, h2, h3, h4, h5⟩, ok, k⟩ := h
    have cl := T.cl_Street
    have n1 := T.na_Street_right
    refine ⟨_, (pss_one (ps_ret (pe_call (ok_same_sort T) (hr.mono (by decide)) (by rfl) T.g_same_sort T.k_same_sort T.b_same_sort .nil pass0 (pa_cons (pe_fld (pv 0) rfl) pa_nil)))), ?_⟩
    walk_at "go"
    exact ⟨_, D.right, rfl, h3, ok.r, fun v' H' so sm => k v' H' so sm⟩
def spFirst (CS CT : Addr) : Sp := fun vs H Q _ => ∃ (v : V) (D : TData), vs = [v] ∧ StreetO CS CT (fun _ => False) H v D ∧ Q (.int D.first) H
theorem ok_Street_first {P : Program} {w : World} {K : PySem.W.Frag} {mg : Str → Option Value} {base : Heap} (T : Tx K mg) : FnOk P w K mg base CX0 1 T.a_Street_first T.fd_Street_first ["self"] ((spFirst T.c_Sort T.c_Street)) := by
  refine T.F_Street_first.ok sc_Street_first (fun vs H Q E h => ?_) (fun cdv A outer s H vs Q E hr h => ?_)
  · obtain ⟨v, D, rfl, _⟩ := h
    rfl
  · obtain ⟨v, D, rfl, ⟨x, dx, oa, lv, rv, os, rfl, _, h1, h2, h3, h4, h5⟩, k⟩ := h
    have cl := T.cl_Street
    have n1 := T.na_Street_first
    refine ⟨_, (pss_one (ps_ret (pe_fld (pv 0) rfl))), ?_⟩
    walk_at "go"
    exact k
def spLen (CS CT : Addr) : Sp := fun vs H Q _ => ∃ (v : V) (D : TData), vs = [v] ∧ StreetO CS CT (fun _ => False) H v D ∧ Q (.int D.odd.length) H
theorem ok_Street_len {P : Program} {w : World} {K : PySem.W.Frag} {mg : Str → Option Value} {base : Heap} (T : Tx K mg) : FnOk P w K mg base CX0 1 T.a_Street_len T.fd_Street_len ["self"] ((spLen T.c_Sort T.c_Street)) := by
  refine T.F_Street_len.ok sc_Street_len (fun vs H Q E h => ?_) (fun cdv A outer s H vs Q E hr h => ?_)
  · obtain ⟨v, D, rfl, _⟩ := h
    rfl
  · obtain ⟨v, D, rfl, ⟨x, dx, oa, lv, rv, os, rfl, _, h1, h2, h3, h4, h5⟩, k⟩ := h
    have cl := T.cl_Street
    have n1 := T.na_Street_odd
    refine ⟨_, (pss_one (ps_ret (pe_callB call_lenL (by rfl) T.z_len (by decide +kernel) (pa_cons (pe_fld (pv 0) rfl) pa_nil)))), ?_⟩
    walk_at "go"
    rw [Each.len h5]
    exact k
def spOdd (CS CT : Addr) : Sp := fun vs H Q _ => ∃ (v : V) (D : TData), vs = [v] ∧ StreetO CS CT (fun _ => False) H v D ∧ TOk D ∧
  ∀ l os H', H l = none → H' l = some (.lst os) → PySem.W.EachIs (SortO CS (fun q => H q ≠ none ∨ q = l) H') os D.odd → Same H H' → Q (.ref l) H'
theorem ok_Street_odd {P : Program} {w : World} {K : PySem.W.Frag} {mg : Str → Option Value} {base : Heap} (T : Tx K mg) : FnOk P w K mg base CX0 5 T.a_Street_odd T.fd_Street_odd ["self"] ((spOdd T.c_Sort T.c_Street)) := by
  refine T.F_Street_odd.ok sc_Street_odd (fun vs H Q E h => ?_) (fun cdv A outer s H vs Q E hr h => ?_)
  · obtain ⟨v, D, rfl, _⟩ := h
    rfl
  · obtain ⟨v, D, rfl, ⟨x, dx, oa, lv, rv, os, rfl, _, h1, h2, h3, h4, h5⟩, ok, k⟩ := h
    have cl := T.cl_Street
    have n1 := T.na_Street_odd
    have ol : os.length ≤ 8 := by rw [Each.len h5]; exact ok.n
    refine ⟨_, (pss_one (ps_ret (pe_lc (own := [("sort", 1)]) rfl (sc_Street_odd).nd (pi_list (pe_fld (pv 0) rfl)) (blkOk_by (own := [("sort", 1)]) (N := n_Street_odd) (sc := defScope s_Street_odd) (by decide +kernel)) (fun _ _ _ _ _ => (pg_name (i := 1) (sc_Street_odd).nd rfl (Or.inl rfl))) (fun _ _ _ _ _ => pts_nil) (fun _ _ _ _ _ => (pe_call (ok_same_sort T) (hr.mono (by decide)) (by rfl) T.g_same_sort T.k_same_sort T.b_same_sort .nil pass0 (pa_cons (pv 1) pa_nil)))))), ?_⟩
    walk_at "go"
    refine s_lcLI (xs := os) (fun D2 k acc H' => Same H H' ∧ PySem.W.EachIs (SortO T.c_Sort (fun q => H q ≠ none ∨ q = D2) H') acc (D.odd.take k)) (SqL.of h4) ?_ ?_ ?_ ?_
    · intro D2 H' _ sm _
      exact ⟨sm, .nil⟩
    · rintro D2 k acc H' _ ⟨sm, _⟩
      exact SqL.of (sm _ _ h4)
    · rintro D2 k acc y H' hD hk hl hA ⟨sm, hda⟩
      obtain ⟨hk1, hk2⟩ := List.getElem?_eq_some_iff.mp hk
      obtain ⟨hk3, hdk⟩ := Each.at h5 hk1
      rw [hk2] at hdk
      walk_at "xs"
      refine ⟨_, D.odd[k], rfl, hdk.same sm, ok.o _ (List.getElem_mem _), fun v4 H4 so4 sm4 => ?_⟩
      walk_at "xs"
      have hA4 := sm4 _ _ hA
      have aD : H' D2 ≠ none := by rw [hA]; exact fun z => nomatch z
      refine s_acc hA4 hl (by omega) fun H'' s'' e'' => ⟨Same.mut (Same.trans sm sm4) s'' hD, ?_⟩
      rw [List.take_succ_eq_append_getElem hk3]
      refine Each.snoc ?_ (Each.imp (fun v y z => (z.same sm4).mut (.inr rfl) (noT_of hA4) s'') hda)
      refine (so4.mut aD (noT_of hA4) s'').weak fun q z => ?_
      rcases z with z | rfl
      · exact Same.some' sm z
      · exact aD
    · rintro l acc H4 hoa hl hA ⟨sm4, hda⟩
      rw [show os.length = D.odd.length from Each.len h5, List.take_length] at hda
      walk_at "xs"
      exact k l acc H4 hoa hA hda sm4

end LH
end
section
set_option maxRecDepth 100000
set_option maxHeartbeats 4000000
namespace LH
open PySem L2
local macro_rules | `(tactic| walk_at "ne") => `(tactic| first
  | assumption
  | (refine' Ne.symm ?hz; (case hz => assumption)))
local macro_rules | `(tactic| walk_at "hp") => `(tactic| first
  | assumption
  | exact upd_same
  | (refine' Same.look (by assumption) ?hz; (case hz => walk_at "hp"))
  | (refine' Sb.look (by assumption) ?hn ?hz; (case hn => walk_at "ne"); (case hz => walk_at "hp"))
  | (refine' upd_new ?hz (by assumption); (case hz => walk_at "hp"))
  | (refine' upd_keep ?hz (by assumption); (case hz => walk_at "hp"))
  | (refine' upd_keep' ?hz (by assumption); (case hz => walk_at "hp")))
local macro_rules | `(tactic| walk_at "sb") => `(tactic| first
  | assumption
  | exact Sb.refl _ _
  | exact Same.refl _
  | (refine' Sb.of_same ?hz; (case hz => assumption))
  | (refine' Sb.trans ?hz (Sb.of_same (by assumption)); (case hz => walk_at "sb"))
  | (refine' Sb.trans ?hz (by assumption); (case hz => walk_at "sb"))
  | (refine' Sb.mut ?hz (by assumption) ?hn; (case hz => walk_at "sb"); (case hn => walk_at "fr"))
  | (refine' Same.trans ?hz (by assumption); (case hz => walk_at "sb"))
  | (refine' Same.mut ?hz (by assumption) ?hn; (case hz => walk_at "sb"); (case hn => walk_at "fr")))
local macro_rules | `(tactic| walk_at "fr") => `(tactic| first
  | assumption
  | (refine' Same.free' (by assumption) ?hz; (case hz => walk_at "fr"))
  | (refine' Sb.free (by assumption) ?hn ?hz; (case hz => walk_at "fr"); (case hn => walk_at "ne")))
local macro_rules | `(tactic| walk_at "pn") => `(tactic| first
  | assumption
  | (refine' Pen.same ?hz (by assumption); (case hz => walk_at "pn"))
  | (refine' Pen.sb ?hz (by assumption) ?hn ?hm; (case hz => walk_at "pn"); (case hn => walk_at "ne"); (case hm => walk_at "ne")))
local macro_rules | `(tactic| walk_at "sq") => `(tactic| first
  | assumption
  | (refine' SqL.of ?hz; (case hz => walk_at "hp"))
  | (refine' SqT.of ?hz; (case hz => walk_at "hp"))
  | (refine' Or.inl (SqL.of ?hz); (case hz => walk_at "hp"))
  | (refine' Or.inr (SqT.of ?hz); (case hz => walk_at "hp"))
  | (refine' Or.inl ?hz; (case hz => assumption))
  | (refine' Or.inr ?hz; (case hz => assumption)))
local macro_rules | `(tactic| walk_at "ar") => `(tactic| first
  | assumption
  | decide
  | omega
  | exact ⟨by omega, by omega⟩
  | exact Or.inl ⟨by omega, by omega⟩
  | exact Or.inr ⟨by omega, by omega⟩
  | exact ⟨by decide, by decide, by decide⟩)
local macro_rules | `(tactic| walk_at "lk") => `(tactic| first
  | assumption
  | exact sortF_rooms _ _
  | exact sortF_doors _ _
  | exact streetF_left _ _ _ _
  | exact streetF_first _ _ _ _
  | exact streetF_odd _ _ _ _
  | exact streetF_right _ _ _ _
  | exact sortF_no _ _ (by decide +kernel) (by decide +kernel)
  | exact streetF_no _ _ _ _ (by decide +kernel) (by decide +kernel) (by decide +kernel) (by decide +kernel))
local macro_rules | `(tactic| walk_at "x1") => `(tactic| first
  | (with_reducible refine' s_seq ?_)
  | ((with_reducible refine' s_var ?hv ?_); (case hv => exact rfl))
  | (with_reducible refine' s_c ?_)
  | (with_reducible refine' s_op ?_)
  | (with_reducible refine' s_asg ?_)
  | (with_reducible refine' s_ret ?_)
  | (with_reducible refine' s_I0 ?_)
  | ((with_reducible refine' s_I ?hc ?_); (case hc => walk_at "ar"))
  | (with_reducible refine' s_test ?_)
  | (with_reducible refine' s_bl ?_)
  | (with_reducible refine' s_ifS ?_)
  | (with_reducible refine' s_next ?_)
  | (with_reducible refine' s_dget ?_)
  | (with_reducible refine' s_cons ?_)
  | (with_reducible refine' s_nil ?_)
  | (with_reducible refine' s_CB ?_)
  | (with_reducible refine' s_lst ?_)
  | (with_reducible refine' s_tup ?_)
  | ((with_reducible refine' s_mkL ?hl ?_); (case hl => first | exact (Nat.le_of_ble_eq_true rfl) | omega))
  | ((with_reducible refine' s_mkT ?hl ?_); (case hl => first | exact (Nat.le_of_ble_eq_true rfl) | omega))
  | (with_reducible refine' s_drop ?_)
  | (with_reducible refine' s_and ?_)
  | (with_reducible refine' s_or ?_)
  | (with_reducible refine' s_not ?_)
  | (with_reducible refine' s_if ?_)
  | (with_reducible refine' s_un ?_)
  | (with_reducible refine' s_rU ?_)
  | (with_reducible refine' s_B ?_)
  | (with_reducible refine' s_yes ?_)
  | (with_reducible refine' s_andV ?_)
  | (with_reducible refine' s_orV ?_)
  | (with_reducible refine' s_notV ?_)
  | (with_reducible refine' s_chain ?_)
  | (with_reducible refine' s_disp ?_)
  | (with_reducible refine' s_pcons ?_)
  | (with_reducible refine' s_pnil ?_)
  | (with_reducible refine' s_dput ?_)
  | (with_reducible refine' s_sl ?_)
  | (with_reducible refine' s_noPart ?_)
  | (with_reducible refine' s_part ?_)
  | (with_reducible refine' s_pt ?_)
  | (with_reducible refine' s_bm ?_)
  | (with_reducible refine' s_bm0 ?_)
  | (with_reducible refine' s_fld ?_)
  | (with_reducible refine' s_fldS ?_)
  | (with_reducible refine' s_par ?_)
  | (with_reducible refine' s_pair ?_)
  | (with_reducible refine' s_par3 ?_)
  | (with_reducible refine' s_tri ?_)
  | (with_reducible refine' s_asgT ?_)
  | (with_reducible refine' s_gName ?_)
  | (with_reducible refine' s_gNil ?_)
  | (with_reducible refine' s_gCons ?_)
  | (with_reducible refine' s_retN ?_)
  | (with_reducible refine' s_call1 ?_)
  | (with_reducible refine' s_eqI ?_)
  | (with_reducible refine' s_neI ?_)
  | (with_reducible refine' s_eqS ?_)
  | (with_reducible refine' s_neS ?_)
  | (with_reducible refine' s_abs ?_)
  | (with_reducible refine' s_strS ?_)
  | (with_reducible refine' s_wt ?_)
  | (with_reducible refine' s_forR ?_)
  | (with_reducible refine' s_forL ?_)
  | (with_reducible refine' s_lcR ?_)
  | (with_reducible refine' s_lcL ?_)
  | (with_reducible refine' s_lcT ?_)
  | (with_reducible refine' s_m1 ?_)
  | (with_reducible refine' s_str ?_)
  | (with_reducible refine' s_gSub ?_)
  | (with_reducible refine' s_dnew ?_)
  | (with_reducible refine' s_lcS ?_)
  | (with_reducible refine' s_make ?_)
  | (with_reducible refine' s_intI ?_)
  | ((with_reducible refine' s_gTup ?hs ?hl ?_); (case hs => walk_at "sq"); (case hl => exact rfl))
  | (with_reducible refine' s_itT ?_)
  | (with_reducible refine' s_itF ?_)
  | ((with_reducible refine' s_dgetS ?hp ?he ?_); (case hp => walk_at "hp"); (case he => first | exact penK_rest _ _ _ | exact penK_turn _ _ _ | exact penK_cells _ _ _ | exact sortK_rooms _ _ | exact sortK_doors _ _ | exact streetK_left _ _ _ _ | exact streetK_first _ _ _ _ | exact streetK_odd _ _ _ _ | exact streetK_right _ _ _ _ | assumption))
  | ((with_reducible refine' s_dputS ?hp ?he ?hl ?_); (case hp => walk_at "hp"); (case he => first | exact put_turn _ _ _ _ | exact put_rest _ _ _ _ | exact rfl); (case hl => exact small1000 (Nat.le_of_ble_eq_true rfl)))
  | ((with_reducible refine' s_ixL ?hs ?he ?_); (case hs => walk_at "sq"); (case he => first | assumption | exact rfl))
  | ((with_reducible refine' s_ixT ?hs ?he ?_); (case hs => walk_at "sq"); (case he => first | assumption | exact rfl))
  | ((with_reducible refine' s_lenL ?hs ?_); (case hs => walk_at "sq"))
  | ((with_reducible refine' s_lenZ ?hs ?_); (case hs => assumption))
  | ((with_reducible refine' s_ixS ?hs ?he ?_); (case hs => assumption); (case he => first | assumption | exact rfl))
  | ((with_reducible refine' s_lstOf ?hs ?_); (case hs => walk_at "sq"))
  | ((with_reducible refine' s_slL ?hs ?_); (case hs => walk_at "sq"))
  | ((with_reducible refine' s_tyL ?hs ?_); (case hs => walk_at "sq"))
  | ((with_reducible refine' s_append ?hp ?hl ?_); (case hp => walk_at "hp"); (case hl => walk_at "ar"))
  | ((with_reducible refine' s_neL ?ha ?hb ?h0 ?_); (case ha => walk_at "sq"); (case hb => walk_at "sq"); (case h0 => first | exact Or.inr rfl | exact Or.inl rfl))
  | ((with_reducible refine' s_eqL ?ha ?hb ?h0 ?_); (case ha => walk_at "sq"); (case hb => walk_at "sq"); (case h0 => first | exact Or.inr rfl | exact Or.inl rfl))
  | ((with_reducible refine' s_clear ?hp ?_); (case hp => walk_at "hp"))
  | ((with_reducible refine' s_reverse ?hp ?_); (case hp => walk_at "hp"))
  | ((with_reducible refine' s_fldV ?hp ?hc ?hn ?he ?_); (case hp => walk_at "hp"); (case hc => assumption); (case hn => assumption); (case he => walk_at "lk"))
  | (with_reducible refine' s_methO ?_)
  | ((with_reducible refine' s_methV ?hp ?hn ?_); (case hp => walk_at "hp"); (case hn => walk_at "lk"))
  )
local macro_rules | `(tactic| walk_at "xs") => `(tactic| repeat (walk_at "x1"))
local macro_rules | `(tactic| walk_at "go") => `(tactic| ((try dsimp only [cxOf, Cx.nox, Cx.wish]); walk_at "xs"))
local macro_rules | `(tactic| walk_at "xu") => `(tactic| repeat (first | walk_at "x1" | (with_reducible refine' s_muU ?_)))

theorem ok_Sort_eqT {P : Program} {w : World} {K : PySem.W.Frag} {mg : Str → Option Value} {base : Heap} (T : Tx K mg) : FnOk P w K mg base CX0 1 T.a_Sort_eq T.fd_Sort_eq ["self", "other"] ((spEq (SameSort T.c_Sort))) := by
  refine T.F_Sort_eq.ok sc_Sort_eq (fun vs H Q E h => ?_) (fun cdv A outer s H vs Q E hr h => ?_)
  · obtain ⟨a, b, rfl, _⟩ := h
    rfl
  · obtain ⟨a, b, rfl, ⟨S, ok, h1, h2⟩, k⟩ := h
    obtain ⟨x, dx, ra, da, ts, hv, _, p1, p2, p3, p4⟩ := h1
    obtain rfl : a = x := V.ref.inj hv
    obtain ⟨y, dy, rb, db, us, hw, _, q1, q2, q3, q4⟩ := h2
    obtain rfl : b = y := V.ref.inj hw
    have cl := T.cl_Sort
    have n1 := T.na_Sort_rooms
    have n2 := T.na_Sort_doors
    have gr := (Gd.rooms ok.rn ok.rl.2).mono (k' := 4) (n' := 1000) (by decide) (by decide)
    have gd := (Gd.doors ok.small ok.dl).mono (k' := 4) (n' := 1000) (by decide) (by decide)
    refine ⟨_, (pss_one (ps_ret (pe_and (pe_callB call_isi (by rfl) T.z_isinstance (by decide +kernel) (pa_cons (pv 1) (pa_cons (pe_glob (v := .ref T.c_Sort) (by rfl) T.mg_Sort rfl) pa_nil))) (pe_and (pe_cmpR (op_eqD hr.units) (pe_fld (pv 0) rfl) (pe_fld (pv 1) rfl) (nomark _)) (pe_one (pe_cmpR (op_eqD hr.units) (pe_fld (pv 0) rfl) (pe_fld (pv 1) rfl) (nomark _))))))), ?_⟩
    walk_at "go"
    refine ⟨.ref b, .ref T.c_Sort, .ref T.c_Sort, .ref T.c_Sort, true, rfl, .own _, T.ic_Sort.ty q1 cl, kit_self, ?_⟩
    walk_at "xs"
    refine ⟨_, _, .lst (SqL.of p2) (strs_dp _), .lst (SqL.of q2) (strs_dp _), gr.shaped, gr.shaped, ?_⟩
    rw [SeqAt.eqv_refl _ gr.lay]
    walk_at "xs"
    refine ⟨_, _, .lst (SqL.of p3) (DoorsAt.all p4), .lst (SqL.of q3) (DoorsAt.all q4), gd.shaped, gd.shaped, ?_⟩
    rw [SeqAt.eqv_refl _ gd.lay]
    exact k _ Ext.rfl'
theorem ok_Street_eqT {P : Program} {w : World} {K : PySem.W.Frag} {mg : Str → Option Value} {base : Heap} (T : Tx K mg) : FnOk P w K mg base CX0 3 T.a_Street_eq T.fd_Street_eq ["self", "other"] ((spEq (SameStreet T.c_Sort T.c_Street))) := by
  refine T.F_Street_eq.ok sc_Street_eq (fun vs H Q E h => ?_) (fun cdv A outer s H vs Q E hr h => ?_)
  · obtain ⟨a, b, rfl, _⟩ := h
    rfl
  · obtain ⟨a, b, rfl, ⟨D, ok, h1, h2⟩, k⟩ := h
    obtain ⟨x, dx, oa, lv, rv, os, hv, _, p1, p2, p3, p4, p5⟩ := h1
    obtain rfl : a = x := V.ref.inj hv
    obtain ⟨y, dy, ob, lw, rw', ot, hw, _, q1, q2, q3, q4, q5⟩ := h2
    obtain rfl : b = y := V.ref.inj hw
    have cl := T.cl_Street
    have n1 := T.na_Street_left
    have n2 := T.na_Street_first
    have n3 := T.na_Street_odd
    have n4 := T.na_Street_right
    have p20 := p2
    have q20 := q2
    obtain ⟨x1, e1, _, _, _, rfl, _, u1, _⟩ := p20
    obtain ⟨x2, e2, _, _, _, rfl, _, u2, _⟩ := q20
    refine ⟨_, (pss_one (ps_ret (pe_and (pe_callB call_isi (by rfl) T.z_isinstance (by decide +kernel) (pa_cons (pv 1) (pa_cons (pe_glob (v := .ref T.c_Street) (by rfl) T.mg_Street rfl) pa_nil))) (pe_and (pe_cmpR op_eq (pe_fld (pv 0) rfl) (pe_fld (pv 1) rfl) (nomark _)) (pe_and (pe_cmpR (op_eqOwn (ok_Sort_eqT T) T.oe_Sort T.b_Sort_eq (hr.mono (by decide))) (pe_fld (pv 0) rfl) (pe_fld (pv 1) rfl) (nomark _)) (pe_and (pe_cmpR (op_eqLO (ok_Sort_eqT T) T.oe_Sort T.b_Sort_eq (hr.mono (by decide))) (pe_fld (pv 0) rfl) (pe_fld (pv 1) rfl) (nomark _)) (pe_one (pe_cmpR (op_eqOwn (ok_Sort_eqT T) T.oe_Sort T.b_Sort_eq (hr.mono (by decide))) (pe_fld (pv 0) rfl) (pe_fld (pv 1) rfl) (nomark _))))))))), ?_⟩
    walk_at "go"
    refine ⟨.ref b, .ref T.c_Street, .ref T.c_Street, .ref T.c_Street, true, rfl, .own _, T.ic_Street.ty q1 cl, kit_self, ?_⟩
    walk_at "xs"
    rw [decide_eq_true rfl]
    walk_at "xs"
    refine ⟨x1, x2, e1, e2, _, _, rfl, rfl, u1, u2, x1, x2, rfl, ⟨D.left, ok.l, p2, q2⟩, fun H2 s2 => ⟨true, rfl, ?_⟩⟩
    have sm2 : Same H H2 := s2
    have p12 := sm2 _ _ p1
    have q12 := sm2 _ _ q1
    walk_at "xs"
    refine ⟨⟨oa, ob, os, ot, rfl, rfl, sm2 _ _ p4, sm2 _ _ q4, (Each.len p5).trans (Each.len q5).symm, fun i v w hv hw => ?_⟩, fun H3 s3 => ?_⟩
    · obtain ⟨S, hS, so⟩ := Each.get p5 hv
      obtain ⟨S', hS', so'⟩ := Each.get q5 hw
      obtain rfl : S = S' := Option.some.inj (hS.symm.trans hS')
      have so1 := so.same sm2
      have so1' := so'.same sm2
      have so2 := so1
      have so2' := so1'
      obtain ⟨z1, f1, _, _, _, rfl, _, w1, _⟩ := so2
      obtain ⟨z2, f2, _, _, _, rfl, _, w2, _⟩ := so2'
      exact ⟨z1, z2, f1, f2, _, _, rfl, rfl, w1, w2, S, ok.o S (List.mem_of_getElem? hS), so1, so1'⟩
    · have sm3 : Same H H3 := Same.trans sm2 s3
      have p13 := sm3 _ _ p1
      have q13 := sm3 _ _ q1
      have r1 := p3.same sm3
      have r2 := q3.same sm3
      have r10 := r1
      have r20 := r2
      obtain ⟨x3, e3, _, _, _, rfl, _, u3, _⟩ := r10
      obtain ⟨x4, e4, _, _, _, rfl, _, u4, _⟩ := r20
      walk_at "xs"
      refine ⟨x3, x4, e3, e4, _, _, rfl, rfl, u3, u4, x3, x4, rfl, ⟨D.right, ok.r, r1, r2⟩, fun H4 s4 => ⟨true, rfl, ?_⟩⟩
      exact k _ (Same.trans sm3 s4)
def TData.at' (D : TData) (h : Int) : SData := if h - D.first < 0 then D.left else (D.odd[(h - D.first).toNat]?).getD D.right
theorem TData.at_left {D : TData} {h : Int} (c : h - D.first < 0) : D.at' h = D.left := if_pos c
theorem TData.at_odd {D : TData} {h : Int} (c : ¬ h - D.first < 0) {S : SData} (e : D.odd[(h - D.first).toNat]? = some S) : D.at' h = S := by
  unfold TData.at'
  rw [if_neg c, e]
  rfl
theorem TData.at_right {D : TData} {h : Int} (c : ¬ h - D.first < 0) (e : ¬ h - D.first < D.odd.length) : D.at' h = D.right := by
  unfold TData.at'
  rw [if_neg c, List.getElem?_eq_none (by omega)]
  rfl
def spAtO (CS CT : Addr) : Sp := fun vs H Q _ => ∃ (v : V) (D : TData) (h : Int), vs = [v, .int h] ∧ StreetO CS CT (fun _ => False) H v D ∧ TOk D ∧ ∀ v' H', SortO CS (fun q => H q ≠ none) H' v' (D.at' h) → Same H H' → Q v' H'
theorem ok_Street_sort_at {P : Program} {w : World} {K : PySem.W.Frag} {mg : Str → Option Value} {base : Heap} (T : Tx K mg) : FnOk P w K mg base CX0 5 T.a_Street_sort_at T.fd_Street_sort_at ["self", "house"] ((spAtO T.c_Sort T.c_Street)) := by
  refine T.F_Street_sort_at.ok sc_Street_sort_at (fun vs H Q E h => ?_) (fun cdv A outer s H vs Q E hr h => ?_)
  · obtain ⟨v, D, h, rfl, _⟩ := h
    rfl
  · obtain ⟨v, D, h, rfl, ⟨x, dx, oa, lv, rv, os, rfl, _, h1, h2, h3, h4, h5⟩, ok, k⟩ := h
    have cl := T.cl_Street
    have n1 := T.na_Street_left
    have n2 := T.na_Street_first
    have n3 := T.na_Street_odd
    have n4 := T.na_Street_right
    refine ⟨_, (pss_cons (ps_set (i := 2) (sc_Street_sort_at).nd rfl (Or.inl rfl) (pe_op op_sub (pv 1) (pe_fld (pv 0) rfl)))
      (pss_cons (ps_if (pt_cmpR op_lt (pv 2) pe_int (nomark _))
      (pss_one (ps_ret (pe_call (ok_same_sort T) (hr.mono (by decide)) (by rfl) T.g_same_sort T.k_same_sort T.b_same_sort .nil pass0 (pa_cons (pe_fld (pv 0) rfl) pa_nil))))
      pss_nil)
      (pss_cons (ps_if (pt_cmpR op_lt (pv 2) (pe_callB call_lenL (by rfl) T.z_len (by decide +kernel) (pa_cons (pe_fld (pv 0) rfl) pa_nil)) (nomark _))
      (pss_one (ps_ret (pe_call (ok_same_sort T) (hr.mono (by decide)) (by rfl) T.g_same_sort T.k_same_sort T.b_same_sort .nil pass0 (pa_cons (pe_ix ix_list (pe_fld (pv 0) rfl) (pv 2) (fun _ _ => rfl)) pa_nil))))
      pss_nil)
      (pss_one (ps_ret (pe_call (ok_same_sort T) (hr.mono (by decide)) (by rfl) T.g_same_sort T.k_same_sort T.b_same_sort .nil pass0 (pa_cons (pe_fld (pv 0) rfl) pa_nil))))))), ?_⟩
    walk_at "go"
    refine ite2 (fun c => ?_) (fun c => ?_)
    · have c1 : h - D.first < 0 := by simpa using c
      walk_at "xs"
      refine ⟨_, D.left, rfl, h2, ok.l, fun v' H' so sm => ?_⟩
      walk_at "xs"
      exact k v' H' (by rw [TData.at_left c1]; exact so) sm
    · have c1 : ¬ h - D.first < 0 := by simpa using c
      walk_at "xs"
      refine ite2 (fun c => ?_) (fun c => ?_)
      · have c2 : h - D.first < os.length := by simpa using c
        have hk : (h - D.first).toNat < os.length := by omega
        obtain ⟨hd, so⟩ := Each.at h5 hk
        have ea : atI os (h - D.first) = some os[(h - D.first).toNat] := by
          have := atI_nat (xs := os) (List.getElem?_eq_getElem hk)
          rwa [show (((h - D.first).toNat : Nat) : Int) = h - D.first by omega] at this
        walk_at "xs"
        refine ⟨_, _, rfl, so, ok.o _ (List.getElem_mem hd), fun v' H' so sm => ?_⟩
        walk_at "xs"
        exact k v' H' (by rw [TData.at_odd c1 (List.getElem?_eq_getElem hd)]; exact so) sm
      · have c2 : ¬ h - D.first < D.odd.length := by
          rw [← Each.len h5]
          simpa using c
        walk_at "xs"
        refine ⟨_, D.right, rfl, h3, ok.r, fun v' H' so sm => ?_⟩
        exact k v' H' (by rw [TData.at_right c1 c2]; exact so) sm
def placesV (D : TData) : List V := (([.str "left"] : List V) ++ rgV D.first (D.first + D.odd.length)) ++ [.str "right"]
def spPlaces (CS CT : Addr) : Sp := fun vs H Q _ => ∃ (v : V) (D : TData), vs = [v] ∧ StreetO CS CT (fun _ => False) H v D ∧ TOk D ∧ ∀ l H', H l = none → Same H H' → H' l = some (.lst (placesV D)) → Q (.ref l) H'
theorem ok_places_of {P : Program} {w : World} {K : PySem.W.Frag} {mg : Str → Option Value} {base : Heap} (T : Tx K mg) : FnOk P w K mg base CX0 3 T.a_places_of T.fd_places_of ["street"] ((spPlaces T.c_Sort T.c_Street)) := by
  refine T.F_places_of.ok sc_places_of (fun vs H Q E h => ?_) (fun cdv A outer s H vs Q E hr h => ?_)
  · obtain ⟨v, D, rfl, _⟩ := h
    rfl
  · obtain ⟨v, D, rfl, hT, ok, k⟩ := h
    have hT0 := hT
    obtain ⟨x, dx, oa, lv, rv, os, rfl, _, h1, _⟩ := hT0
    have on := ok.n
    refine ⟨_, (pss_cons (ps_set (i := 1) (sc_places_of).nd rfl (Or.inr rfl) (pe_meth0 (pv 0) T.cl_Street T.m_Street_first (ok_Street_first T) (hr.mono (by decide)) T.b_Street_first .nil pass0))
      (pss_one (ps_ret (pe_op op_cat (pe_op op_cat (pe_lst (pa_cons pe_str pa_nil)) (pe_lc (own := [("k", 2)]) rfl (sc_places_of).nd (pi_range1 rfl T.z_range (pa_cons (pe_callB (call_lenO (ok_Street_len T) T.m_Street_len T.b_Street_len (hr.mono (by decide))) (by rfl) T.z_len (by decide +kernel) (pa_cons (pv 0) pa_nil)) pa_nil)) (blkOk_by (own := [("k", 2)]) (N := n_places_of) (sc := defScope s_places_of) (by decide +kernel)) (fun _ _ _ _ _ => (pg_name (i := 2) (sc_places_of).nd rfl (Or.inl rfl))) (fun _ _ _ _ _ => pts_nil) (fun _ _ _ _ _ => (pe_op op_add (pv 1) (pv 2))))) (pe_lst (pa_cons pe_str pa_nil)))))), ?_⟩
    walk_at "go"
    refine ⟨_, D, rfl, hT, ?_⟩
    walk_at "xs"
    refine s_no fun b1 H1 hb1 sm1 e1 => ?_
    walk_at "xs"
    refine ⟨x, _, _, rfl, sm1 _ _ h1, _, D, rfl, hT.same sm1, D.odd.length, rfl, by omega, ?_⟩
    walk_at "xs"
    refine s_lcRI (fun D2 k acc H' => Same H1 H' ∧ acc = (List.range k).map fun i => V.int (D.first + (i : Nat))) (by omega) (by omega) ?_ ?_ ?_
    · intro D2 H' _ sm _
      exact ⟨sm, rfl⟩
    · rintro D2 k2 acc H' hD hk hl hA ⟨sm, rfl⟩
      walk_at "xs"
      refine s_acc hA hl (by omega) fun H'' s'' e'' => ⟨Same.mut sm s'' hD, ?_⟩
      rw [List.range_succ, List.map_append]
      rfl
    · rintro b2 acc H2 hb2 hl hA ⟨sm2, rfl⟩
      have eq : (List.range (Int.toNat (D.odd.length : Nat))).map (fun i => V.int (D.first + (i : Nat))) = rgV D.first (D.first + D.odd.length) := by
        unfold rgV
        rw [show (D.first + (D.odd.length : Int) - D.first).toNat = D.odd.length by omega]
        rfl
      rw [eq] at hA
      have ll : (rgV D.first (D.first + D.odd.length)).length ≤ 8 := by rw [rgV_length]; omega
      walk_at "xs"
      refine s_cat (sm2 _ _ e1) hA (by show 1 + _ ≤ 1000; omega) ?_
      refine s_no fun b3 H3 hb3 sm3 e3 => ?_
      walk_at "xs"
      refine s_no fun b4 H4 hb4 sm4 e4 => ?_
      walk_at "xs"
      refine s_cat (sm4 _ _ e3) e4 (by rw [List.length_append]; show (1 + _) + 1 ≤ 1000; omega) ?_
      refine s_no fun l H5 hl5 sm5 e5 => ?_
      have sm : Same H H4 := Same.trans (Same.trans (Same.trans sm1 sm2) sm3) sm4
      exact k l H5 (Same.free' sm hl5) (Same.trans sm sm5) e5

end LH
end
section
set_option maxRecDepth 100000
set_option maxHeartbeats 4000000
namespace LH
open PySem L2
local macro_rules | `(tactic| walk_at "ne") => `(tactic| first
  | assumption
  | (refine' Ne.symm ?hz; (case hz => assumption)))
local macro_rules | `(tactic| walk_at "hp") => `(tactic| first
  | assumption
  | exact upd_same
  | (refine' Same.look (by assumption) ?hz; (case hz => walk_at "hp"))
  | (refine' Sb.look (by assumption) ?hn ?hz; (case hn => walk_at "ne"); (case hz => walk_at "hp"))
  | (refine' upd_new ?hz (by assumption); (case hz => walk_at "hp"))
  | (refine' upd_keep ?hz (by assumption); (case hz => walk_at "hp"))
  | (refine' upd_keep' ?hz (by assumption); (case hz => walk_at "hp")))
local macro_rules | `(tactic| walk_at "sb") => `(tactic| first
  | assumption
  | exact Sb.refl _ _
  | exact Same.refl _
  | (refine' Sb.of_same ?hz; (case hz => assumption))
  | (refine' Sb.trans ?hz (Sb.of_same (by assumption)); (case hz => walk_at "sb"))
  | (refine' Sb.trans ?hz (by assumption); (case hz => walk_at "sb"))
  | (refine' Sb.mut ?hz (by assumption) ?hn; (case hz => walk_at "sb"); (case hn => walk_at "fr"))
  | (refine' Same.trans ?hz (by assumption); (case hz => walk_at "sb"))
  | (refine' Same.mut ?hz (by assumption) ?hn; (case hz => walk_at "sb"); (case hn => walk_at "fr")))
local macro_rules | `(tactic| walk_at "fr") => `(tactic| first
  | assumption
  | (refine' Same.free' (by assumption) ?hz; (case hz => walk_at "fr"))
  | (refine' Sb.free (by assumption) ?hn ?hz; (case hz => walk_at "fr"); (case hn => walk_at "ne")))
local macro_rules | `(tactic| walk_at "pn") => `(tactic| first
  | assumption
  | (refine' Pen.same ?hz (by assumption); (case hz => walk_at "pn"))
  | (refine' Pen.sb ?hz (by assumption) ?hn ?hm; (case hz => walk_at "pn"); (case hn => walk_at "ne"); (case hm => walk_at "ne")))
local macro_rules | `(tactic| walk_at "sq") => `(tactic| first
  | assumption
  | (refine' SqL.of ?hz; (case hz => walk_at "hp"))
  | (refine' SqT.of ?hz; (case hz => walk_at "hp"))
  | (refine' Or.inl (SqL.of ?hz); (case hz => walk_at "hp"))
  | (refine' Or.inr (SqT.of ?hz); (case hz => walk_at "hp"))
  | (refine' Or.inl ?hz; (case hz => assumption))
  | (refine' Or.inr ?hz; (case hz => assumption)))
local macro_rules | `(tactic| walk_at "ar") => `(tactic| first
  | assumption
  | decide
  | omega
  | exact ⟨by omega, by omega⟩
  | exact Or.inl ⟨by omega, by omega⟩
  | exact Or.inr ⟨by omega, by omega⟩
  | exact ⟨by decide, by decide, by decide⟩)
local macro_rules | `(tactic| walk_at "lk") => `(tactic| first
  | assumption
  | exact sortF_rooms _ _
  | exact sortF_doors _ _
  | exact streetF_left _ _ _ _
  | exact streetF_first _ _ _ _
  | exact streetF_odd _ _ _ _
  | exact streetF_right _ _ _ _
  | exact sortF_no _ _ (by decide +kernel) (by decide +kernel)
  | exact streetF_no _ _ _ _ (by decide +kernel) (by decide +kernel) (by decide +kernel) (by decide +kernel))
local macro_rules | `(tactic| walk_at "x1") => `(tactic| first
  | (with_reducible refine' s_seq ?_)
  | ((with_reducible refine' s_var ?hv ?_); (case hv => exact rfl))
  | (with_reducible refine' s_c ?_)
  | (with_reducible refine' s_op ?_)
  | (with_reducible refine' s_asg ?_)
  | (with_reducible refine' s_ret ?_)
  | (with_reducible refine' s_I0 ?_)
  | ((with_reducible refine' s_I ?hc ?_); (case hc => walk_at "ar"))
  | (with_reducible refine' s_test ?_)
  | (with_reducible refine' s_bl ?_)
  | (with_reducible refine' s_ifS ?_)
  | (with_reducible refine' s_next ?_)
  | (with_reducible refine' s_dget ?_)
  | (with_reducible refine' s_cons ?_)
  | (with_reducible refine' s_nil ?_)
  | (with_reducible refine' s_CB ?_)
  | (with_reducible refine' s_lst ?_)
  | (with_reducible refine' s_tup ?_)
  | ((with_reducible refine' s_mkL ?hl ?_); (case hl => first | exact (Nat.le_of_ble_eq_true rfl) | omega))
  | ((with_reducible refine' s_mkT ?hl ?_); (case hl => first | exact (Nat.le_of_ble_eq_true rfl) | omega))
  | (with_reducible refine' s_drop ?_)
  | (with_reducible refine' s_and ?_)
  | (with_reducible refine' s_or ?_)
  | (with_reducible refine' s_not ?_)
  | (with_reducible refine' s_if ?_)
  | (with_reducible refine' s_un ?_)
  | (with_reducible refine' s_rU ?_)
  | (with_reducible refine' s_B ?_)
  | (with_reducible refine' s_yes ?_)
  | (with_reducible refine' s_andV ?_)
  | (with_reducible refine' s_orV ?_)
  | (with_reducible refine' s_notV ?_)
  | (with_reducible refine' s_chain ?_)
  | (with_reducible refine' s_disp ?_)
  | (with_reducible refine' s_pcons ?_)
  | (with_reducible refine' s_pnil ?_)
  | (with_reducible refine' s_dput ?_)
  | (with_reducible refine' s_sl ?_)
  | (with_reducible refine' s_noPart ?_)
  | (with_reducible refine' s_part ?_)
  | (with_reducible refine' s_pt ?_)
  | (with_reducible refine' s_bm ?_)
  | (with_reducible refine' s_bm0 ?_)
  | (with_reducible refine' s_fld ?_)
  | (with_reducible refine' s_fldS ?_)
  | (with_reducible refine' s_par ?_)
  | (with_reducible refine' s_pair ?_)
  | (with_reducible refine' s_par3 ?_)
  | (with_reducible refine' s_tri ?_)
  | (with_reducible refine' s_asgT ?_)
  | (with_reducible refine' s_gName ?_)
  | (with_reducible refine' s_gNil ?_)
  | (with_reducible refine' s_gCons ?_)
  | (with_reducible refine' s_retN ?_)
  | (with_reducible refine' s_call1 ?_)
  | (with_reducible refine' s_eqI ?_)
  | (with_reducible refine' s_neI ?_)
  | (with_reducible refine' s_eqS ?_)
  | (with_reducible refine' s_neS ?_)
  | (with_reducible refine' s_abs ?_)
  | (with_reducible refine' s_strS ?_)
  | (with_reducible refine' s_wt ?_)
  | (with_reducible refine' s_forR ?_)
  | (with_reducible refine' s_forL ?_)
  | (with_reducible refine' s_lcR ?_)
  | (with_reducible refine' s_lcL ?_)
  | (with_reducible refine' s_lcT ?_)
  | (with_reducible refine' s_m1 ?_)
  | (with_reducible refine' s_str ?_)
  | (with_reducible refine' s_gSub ?_)
  | (with_reducible refine' s_dnew ?_)
  | (with_reducible refine' s_lcS ?_)
  | (with_reducible refine' s_make ?_)
  | (with_reducible refine' s_intI ?_)
  | ((with_reducible refine' s_gTup ?hs ?hl ?_); (case hs => walk_at "sq"); (case hl => exact rfl))
  | (with_reducible refine' s_itT ?_)
  | (with_reducible refine' s_itF ?_)
  | ((with_reducible refine' s_dgetS ?hp ?he ?_); (case hp => walk_at "hp"); (case he => first | exact penK_rest _ _ _ | exact penK_turn _ _ _ | exact penK_cells _ _ _ | exact sortK_rooms _ _ | exact sortK_doors _ _ | exact streetK_left _ _ _ _ | exact streetK_first _ _ _ _ | exact streetK_odd _ _ _ _ | exact streetK_right _ _ _ _ | assumption))
  | ((with_reducible refine' s_dputS ?hp ?he ?hl ?_); (case hp => walk_at "hp"); (case he => first | exact put_turn _ _ _ _ | exact put_rest _ _ _ _ | exact rfl); (case hl => exact small1000 (Nat.le_of_ble_eq_true rfl)))
  | ((with_reducible refine' s_ixL ?hs ?he ?_); (case hs => walk_at "sq"); (case he => first | assumption | exact rfl))
  | ((with_reducible refine' s_ixT ?hs ?he ?_); (case hs => walk_at "sq"); (case he => first | assumption | exact rfl))
  | ((with_reducible refine' s_lenL ?hs ?_); (case hs => walk_at "sq"))
  | ((with_reducible refine' s_lenZ ?hs ?_); (case hs => assumption))
  | ((with_reducible refine' s_ixS ?hs ?he ?_); (case hs => assumption); (case he => first | assumption | exact rfl))
  | ((with_reducible refine' s_lstOf ?hs ?_); (case hs => walk_at "sq"))
  | ((with_reducible refine' s_slL ?hs ?_); (case hs => walk_at "sq"))
  | ((with_reducible refine' s_tyL ?hs ?_); (case hs => walk_at "sq"))
  | ((with_reducible refine' s_append ?hp ?hl ?_); (case hp => walk_at "hp"); (case hl => walk_at "ar"))
  | ((with_reducible refine' s_neL ?ha ?hb ?h0 ?_); (case ha => walk_at "sq"); (case hb => walk_at "sq"); (case h0 => first | exact Or.inr rfl | exact Or.inl rfl))
  | ((with_reducible refine' s_eqL ?ha ?hb ?h0 ?_); (case ha => walk_at "sq"); (case hb => walk_at "sq"); (case h0 => first | exact Or.inr rfl | exact Or.inl rfl))
  | ((with_reducible refine' s_clear ?hp ?_); (case hp => walk_at "hp"))
  | ((with_reducible refine' s_reverse ?hp ?_); (case hp => walk_at "hp"))
  | ((with_reducible refine' s_fldV ?hp ?hc ?hn ?he ?_); (case hp => walk_at "hp"); (case hc => assumption); (case hn => assumption); (case he => walk_at "lk"))
  | (with_reducible refine' s_methO ?_)
  | ((with_reducible refine' s_methV ?hp ?hn ?_); (case hp => walk_at "hp"); (case hn => walk_at "lk"))
  )
local macro_rules | `(tactic| walk_at "xs") => `(tactic| repeat (walk_at "x1"))
local macro_rules | `(tactic| walk_at "go") => `(tactic| ((try dsimp only [cxOf, Cx.nox, Cx.wish]); walk_at "xs"))
local macro_rules | `(tactic| walk_at "xu") => `(tactic| repeat (first | walk_at "x1" | (with_reducible refine' s_muU ?_)))

def spAtD : Sp := fun vs H Q _ => ∃ (v : V) (D : TData) (h : Int), vs = [v, .int h] ∧ StreetAt (fun _ => False) H v D ∧ ∀ v', SortAt (fun _ => False) H v' (D.at' h) → Q v' H
theorem ok_law_at {P : Program} {w : World} {K : PySem.W.Frag} {mg : Str → Option Value} {base : Heap} (T : Tx K mg) : FnOk P w K mg base CX0 1 T.a_law_at T.fd_law_at ["street", "house"] (spAtD) := by
  refine T.F_law_at.ok sc_law_at (fun vs H Q E h => ?_) (fun cdv A outer s H vs Q E hr h => ?_)
  · obtain ⟨v, D, h, rfl, _⟩ := h
    rfl
  · obtain ⟨v, D, h, rfl, ⟨a, oa, lv, rv, os, rfl, _, h1, h2, h3, h4, h5⟩, k⟩ := h
    have hu := hu_of hr
    refine ⟨_, (pss_cons (ps_set (i := 2) (sc_law_at).nd rfl (Or.inl rfl) (pe_op op_sub (pv 1) (pe_dget hu (pv 0) pe_str (fun _ _ => rfl))))
      (pss_cons (ps_if (pt_cmpR op_lt (pv 2) pe_int (nomark _))
      (pss_one (ps_ret (pe_dget hu (pv 0) pe_str (fun _ _ => rfl))))
      pss_nil)
      (pss_one (ps_ret (pe_ifExp (pt_cmpR op_lt (pv 2) (pe_callB call_lenL (by rfl) T.z_len (by decide +kernel) (pa_cons (pe_dget hu (pv 0) pe_str (fun _ _ => rfl)) pa_nil)) (nomark _)) (pe_ix ix_list (pe_dget hu (pv 0) pe_str (fun _ _ => rfl)) (pv 2) (fun _ _ => rfl)) (pe_dget hu (pv 0) pe_str (fun _ _ => rfl))))))), ?_⟩
    walk_at "go"
    refine ite2 (fun c => ?_) (fun c => ?_)
    · have c1 : h - D.first < 0 := by simpa using c
      walk_at "xs"
      exact k _ (by rw [TData.at_left c1]; exact h2)
    · have c1 : ¬ h - D.first < 0 := by simpa using c
      walk_at "xs"
      refine ite2 (fun c => ?_) (fun c => ?_)
      · have c2 : h - D.first < os.length := by simpa using c
        have hk : (h - D.first).toNat < os.length := by omega
        obtain ⟨hd, so⟩ := Each.at h5 hk
        have ea : atI os (h - D.first) = some os[(h - D.first).toNat] := by
          have := atI_nat (xs := os) (List.getElem?_eq_getElem hk)
          rwa [show (((h - D.first).toNat : Nat) : Int) = h - D.first by omega] at this
        walk_at "xs"
        exact k _ (by rw [TData.at_odd c1 (List.getElem?_eq_getElem hd)]; exact so)
      · have c2 : ¬ h - D.first < D.odd.length := by
          rw [← Each.len h5]
          simpa using c
        walk_at "xs"
        exact k _ (by rw [TData.at_right c1 c2]; exact h3)
def spMade (CS CT : Addr) : Sp := fun vs H Q _ => ∃ (v : V) (D : TData), vs = [v] ∧ StreetAt (fun _ => False) H v D ∧ TOk D ∧ ∀ v' H', StreetO CS CT (fun q => H q ≠ none) H' v' D → Same H H' → Q v' H'
theorem ok_law_made {P : Program} {w : World} {K : PySem.W.Frag} {mg : Str → Option Value} {base : Heap} (T : Tx K mg) : FnOk P w K mg base CX0 7 T.a_law_made T.fd_law_made ["street"] ((spMade T.c_Sort T.c_Street)) := by
  refine T.F_law_made.ok sc_law_made (fun vs H Q E h => ?_) (fun cdv A outer s H vs Q E hr h => ?_)
  · obtain ⟨v, D, rfl, _⟩ := h
    rfl
  · obtain ⟨v, D, rfl, ⟨a, oa, lv, rv, os, rfl, _, h1, h2, h3, h4, h5⟩, ok, k⟩ := h
    have hu := hu_of hr
    have ol : os.length ≤ 8 := by rw [Each.len h5]; exact ok.n
    refine ⟨_, (pss_cons (ps_setLc (i := 1) (own := [("one", 2)]) rfl (sc_law_made).nd rfl rfl (sw_true rfl rfl rfl (by decide +kernel)) (pi_list (pe_op op_cat (pe_lst (pa_cons (pe_dget hu (pv 0) pe_str (fun _ _ => rfl)) (pa_cons (pe_dget hu (pv 0) pe_str (fun _ _ => rfl)) pa_nil))) (pe_dget hu (pv 0) pe_str (fun _ _ => rfl)))) (blkOk_by (own := [("one", 2)]) (N := n_law_made) (sc := defScope s_law_made) (by decide +kernel)) (fun _ _ _ _ _ => (pg_name (i := 2) (sc_law_made).nd rfl (Or.inl rfl))) (fun _ _ _ _ _ => pts_nil) (fun _ _ _ _ _ => (pe_make T.M_Sort (ok_Sort_init T) (hr.mono (by decide)) (by rfl) T.mg_Sort T.b_Sort_init .nil pass0 (pa_cons (pe_dget hu (pv 2) pe_str (fun _ _ => rfl)) (pa_cons (pe_dget hu (pv 2) pe_str (fun _ _ => rfl)) pa_nil)))))
      (pss_one (ps_ret (pe_make T.M_Street (ok_Street_init T) (hr.mono (by decide)) (by rfl) T.mg_Street T.b_Street_init .nil pass0 (pa_cons (pe_ix ix_list (pv 1) pe_int (fun _ _ => rfl)) (pa_cons (pe_dget hu (pv 0) pe_str (fun _ _ => rfl)) (pa_cons (pe_slice sl_list (pv 1) (po_some pe_int) po_none) (pa_cons (pe_ix ix_list (pv 1) pe_int (fun _ _ => rfl)) pa_nil)))))))), ?_⟩
    walk_at "go"
    refine s_no fun b1 H1 hb1 sm1 e1 => ?_
    walk_at "xs"
    refine s_cat e1 (sm1 _ _ h4) (by show 2 + os.length ≤ 1000; omega) ?_
    refine s_no fun b2 H2 hb2 sm2 e2 => ?_
    have sm02 : Same H H2 := Same.trans sm1 sm2
    have evs : PySem.W.EachIs (SortAt (fun _ => False) H2) ([lv, rv] ++ os) (D.left :: D.right :: D.odd) :=
      .cons (h2.same sm02) (.cons (h3.same sm02) (Each.imp (fun v S (z : SortAt (fun _ => False) H v S) => z.same sm02) h5))
    have evl : ([lv, rv] ++ os).length = D.odd.length + 2 := Each.len evs
    have okA : ∀ S ∈ D.left :: D.right :: D.odd, SOk S := fun S hS => by
      rcases List.mem_cons.mp hS with rfl | hS
      · exact ok.l
      · rcases List.mem_cons.mp hS with rfl | hS
        · exact ok.r
        · exact ok.o S hS
    have on := ok.n
    generalize ([lv, rv] ++ os) = ys at e2 evs evl
    walk_at "xs"
    refine s_lcLI (xs := ys) (fun D2 k acc H' => Same H2 H' ∧ PySem.W.EachIs (SortO T.c_Sort (fun q => H2 q ≠ none ∨ q = D2) H') acc ((D.left :: D.right :: D.odd).take k)) (SqL.of e2) ?_ ?_ ?_ ?_
    · intro D2 H' _ sm _
      exact ⟨sm, .nil⟩
    · rintro D2 k acc H' _ ⟨sm, _⟩
      exact SqL.of (sm _ _ e2)
    · rintro D2 k2 acc y H' hD hk hl hA ⟨sm, hda⟩
      obtain ⟨hk1, hk2⟩ := List.getElem?_eq_some_iff.mp hk
      obtain ⟨hk3, hdk⟩ := Each.at evs hk1
      rw [hk2] at hdk
      have okS := okA _ (List.getElem_mem hk3)
      obtain ⟨sa, ra, da, ts, rfl, _, g1, g2, g3, g4⟩ := hdk
      have g1' := sm _ _ g1
      walk_at "xs"
      refine s_mkO fun y dy H3 hy hdy sm3 e3 => ?_
      refine ⟨y, dy, ra, da, _, ts, _, _, rfl, e3, .inl (sm3 _ _ (sm _ _ g2)), .inl (sm3 _ _ (sm _ _ g3)), DoorsAt.same g4 (Same.trans sm sm3), okS, .refl _, .refl _, fun H4 ra' da' ts' f1 f2 f3 f4 f5 f6 f7 => ⟨rfl, ?_⟩⟩
      have sm4 : Same H' H4 := fun b o e => f7 b o (ne_of_none e hy) (sm3 b o e)
      walk_at "xs"
      have hA4 := sm4 _ _ hA
      refine s_acc hA4 hl (by omega) fun H5 s5 e5 => ⟨Same.mut (Same.trans sm sm4) s5 hD, ?_⟩
      rw [List.take_succ_eq_append_getElem hk3]
      refine Each.snoc ?_ (Each.imp (fun v y z => (z.same sm4).mut (.inr rfl) (noT_of hA4) s5) hda)
      have so : SortO T.c_Sort (fun q => H' q ≠ none) H4 (.ref y) _ := ⟨y, dy, ra', da', ts', rfl, ⟨fun z => z hy, fun z => z (Same.free' sm3 f1), fun z => z (Same.free' sm3 f2)⟩, f3, f4, f5, f6⟩
      have aD : H' D2 ≠ none := by rw [hA]; exact fun z => nomatch z
      refine (so.mut aD (noT_of hA4) s5).weak fun q z => ?_
      rcases z with z | rfl
      · exact Same.some' sm z
      · exact aD
    · rintro sl acc H3 hsl hl hA ⟨sm3, hda⟩
      rw [show ys.length = (D.left :: D.right :: D.odd).length by rw [evl]; rfl, List.take_length] at hda
      have hds := Each.imp (fun v S (z : SortO T.c_Sort (fun q => H2 q ≠ none ∨ q = sl) H3 v S) => z.weak (av' := fun _ => False) fun q z => z.elim) hda
      have al : acc.length = D.odd.length + 2 := by rw [hl, evl]
      obtain ⟨_, s0⟩ := Each.at hds (i := 0) (by omega)
      obtain ⟨_, s1⟩ := Each.at hds (i := 1) (by omega)
      have a0 := at_zero (xs := acc) (by omega)
      have a1 : atI acc 1 = some (acc[1]'(by omega)) := atI_nat (j := 1) (List.getElem?_eq_getElem (by omega))
      have odz := Each.drop 2 hds
      generalize acc[0]'(by omega) = lo at a0 s0
      generalize acc[1]'(by omega) = ro at a1 s1
      have sm03 : Same H H3 := Same.trans sm02 sm3
      have h13 := sm03 _ _ h1
      walk_at "xs"
      refine s_no fun ol' H4 hol sm4 e4 => ?_
      rw [cutV_from (by decide)] at e4
      have a0' := a0
      walk_at "xs"
      refine s_mkO fun y dy H5 hy hdy sm5 e5 => ?_
      have sm35 : Same H3 H5 := Same.trans sm4 sm5
      have sm05 : Same H H5 := Same.trans sm03 sm35
      have hyH : H y = none := Same.free' (Same.trans sm03 sm4) hy
      refine ⟨y, dy, ol', lo, ro, _, D, rfl, e5, s0.same sm35, s1.same sm35, .inl (sm5 _ _ e4), Each.imp (fun v S (z : SortO T.c_Sort (fun _ => False) H3 v S) => z.same sm35) odz, ok, fun H6 oa' lv' rv' os' f1 f2 f3 f4 f5 f6 f7 => ⟨rfl, ?_⟩⟩
      have fr : ∀ q, H q ≠ none → H5 q ≠ none := fun q z => Same.some' sm05 z
      exact k _ H6 ⟨y, dy, oa', lv', rv', os', rfl, ⟨fun z => z hyH, fun z => fr _ z f1⟩, f2, f3.weak fr, f4.weak fr, f5, Each.imp (fun _ _ z => z.weak fr) f6⟩ (fun b o e => f7 b o (ne_of_none e hyH) (sm05 b o e))

end LH
end
section
set_option maxRecDepth 100000
set_option maxHeartbeats 4000000
namespace LH
open PySem L2
local macro_rules | `(tactic| walk_at "ne") => `(tactic| first
  | assumption
  | (refine' Ne.symm ?hz; (case hz => assumption)))
local macro_rules | `(tactic| walk_at "hp") => `(tactic| first
  | assumption
  | exact upd_same
  | (refine' Same.look (by assumption) ?hz; (case hz => walk_at "hp"))
  | (refine' Sb.look (by assumption) ?hn ?hz; (case hn => walk_at "ne"); (case hz => walk_at "hp"))
  | (refine' upd_new ?hz (by assumption); (case hz => walk_at "hp"))
  | (refine' upd_keep ?hz (by assumption); (case hz => walk_at "hp"))
  | (refine' upd_keep' ?hz (by assumption); (case hz => walk_at "hp")))
local macro_rules | `(tactic| walk_at "sb") => `(tactic| first
  | assumption
  | exact Sb.refl _ _
  | exact Same.refl _
  | (refine' Sb.of_same ?hz; (case hz => assumption))
  | (refine' Sb.trans ?hz (Sb.of_same (by assumption)); (case hz => walk_at "sb"))
  | (refine' Sb.trans ?hz (by assumption); (case hz => walk_at "sb"))
  | (refine' Sb.mut ?hz (by assumption) ?hn; (case hz => walk_at "sb"); (case hn => walk_at "fr"))
  | (refine' Same.trans ?hz (by assumption); (case hz => walk_at "sb"))
  | (refine' Same.mut ?hz (by assumption) ?hn; (case hz => walk_at "sb"); (case hn => walk_at "fr")))
local macro_rules | `(tactic| walk_at "fr") => `(tactic| first
  | assumption
  | (refine' Same.free' (by assumption) ?hz; (case hz => walk_at "fr"))
  | (refine' Sb.free (by assumption) ?hn ?hz; (case hz => walk_at "fr"); (case hn => walk_at "ne")))
local macro_rules | `(tactic| walk_at "pn") => `(tactic| first
  | assumption
  | (refine' Pen.same ?hz (by assumption); (case hz => walk_at "pn"))
  | (refine' Pen.sb ?hz (by assumption) ?hn ?hm; (case hz => walk_at "pn"); (case hn => walk_at "ne"); (case hm => walk_at "ne")))
local macro_rules | `(tactic| walk_at "sq") => `(tactic| first
  | assumption
  | (refine' SqL.of ?hz; (case hz => walk_at "hp"))
  | (refine' SqT.of ?hz; (case hz => walk_at "hp"))
  | (refine' Or.inl (SqL.of ?hz); (case hz => walk_at "hp"))
  | (refine' Or.inr (SqT.of ?hz); (case hz => walk_at "hp"))
  | (refine' Or.inl ?hz; (case hz => assumption))
  | (refine' Or.inr ?hz; (case hz => assumption)))
local macro_rules | `(tactic| walk_at "ar") => `(tactic| first
  | assumption
  | decide
  | omega
  | exact ⟨by omega, by omega⟩
  | exact Or.inl ⟨by omega, by omega⟩
  | exact Or.inr ⟨by omega, by omega⟩
  | exact ⟨by decide, by decide, by decide⟩)
local macro_rules | `(tactic| walk_at "lk") => `(tactic| first
  | assumption
  | exact sortF_rooms _ _
  | exact sortF_doors _ _
  | exact streetF_left _ _ _ _
  | exact streetF_first _ _ _ _
  | exact streetF_odd _ _ _ _
  | exact streetF_right _ _ _ _
  | exact sortF_no _ _ (by decide +kernel) (by decide +kernel)
  | exact streetF_no _ _ _ _ (by decide +kernel) (by decide +kernel) (by decide +kernel) (by decide +kernel))
local macro_rules | `(tactic| walk_at "x1") => `(tactic| first
  | (with_reducible refine' s_seq ?_)
  | ((with_reducible refine' s_var ?hv ?_); (case hv => exact rfl))
  | (with_reducible refine' s_c ?_)
  | (with_reducible refine' s_op ?_)
  | (with_reducible refine' s_asg ?_)
  | (with_reducible refine' s_ret ?_)
  | (with_reducible refine' s_I0 ?_)
  | ((with_reducible refine' s_I ?hc ?_); (case hc => walk_at "ar"))
  | (with_reducible refine' s_test ?_)
  | (with_reducible refine' s_bl ?_)
  | (with_reducible refine' s_ifS ?_)
  | (with_reducible refine' s_next ?_)
  | (with_reducible refine' s_dget ?_)
  | (with_reducible refine' s_cons ?_)
  | (with_reducible refine' s_nil ?_)
  | (with_reducible refine' s_CB ?_)
  | (with_reducible refine' s_lst ?_)
  | (with_reducible refine' s_tup ?_)
  | ((with_reducible refine' s_mkL ?hl ?_); (case hl => first | exact (Nat.le_of_ble_eq_true rfl) | omega))
  | ((with_reducible refine' s_mkT ?hl ?_); (case hl => first | exact (Nat.le_of_ble_eq_true rfl) | omega))
  | (with_reducible refine' s_drop ?_)
  | (with_reducible refine' s_and ?_)
  | (with_reducible refine' s_or ?_)
  | (with_reducible refine' s_not ?_)
  | (with_reducible refine' s_if ?_)
  | (with_reducible refine' s_un ?_)
  | (with_reducible refine' s_rU ?_)
  | (with_reducible refine' s_B ?_)
  | (with_reducible refine' s_yes ?_)
  | (with_reducible refine' s_andV ?_)
  | (with_reducible refine' s_orV ?_)
  | (with_reducible refine' s_notV ?_)
  | (with_reducible refine' s_chain ?_)
  | (with_reducible refine' s_disp ?_)
  | (with_reducible refine' s_pcons ?_)
  | (with_reducible refine' s_pnil ?_)
  | (with_reducible refine' s_dput ?_)
  | (with_reducible refine' s_sl ?_)
  | (with_reducible refine' s_noPart ?_)
  | (with_reducible refine' s_part ?_)
  | (with_reducible refine' s_pt ?_)
  | (with_reducible refine' s_bm ?_)
  | (with_reducible refine' s_bm0 ?_)
  | (with_reducible refine' s_fld ?_)
  | (with_reducible refine' s_fldS ?_)
  | (with_reducible refine' s_par ?_)
  | (with_reducible refine' s_pair ?_)
  | (with_reducible refine' s_par3 ?_)
  | (with_reducible refine' s_tri ?_)
  | (with_reducible refine' s_asgT ?_)
  | (with_reducible refine' s_gName ?_)
  | (with_reducible refine' s_gNil ?_)
  | (with_reducible refine' s_gCons ?_)
  | (with_reducible refine' s_retN ?_)
  | (with_reducible refine' s_call1 ?_)
  | (with_reducible refine' s_eqI ?_)
  | (with_reducible refine' s_neI ?_)
  | (with_reducible refine' s_eqS ?_)
  | (with_reducible refine' s_neS ?_)
  | (with_reducible refine' s_abs ?_)
  | (with_reducible refine' s_strS ?_)
  | (with_reducible refine' s_wt ?_)
  | (with_reducible refine' s_forR ?_)
  | (with_reducible refine' s_forL ?_)
  | (with_reducible refine' s_lcR ?_)
  | (with_reducible refine' s_lcL ?_)
  | (with_reducible refine' s_lcT ?_)
  | (with_reducible refine' s_m1 ?_)
  | (with_reducible refine' s_str ?_)
  | (with_reducible refine' s_gSub ?_)
  | (with_reducible refine' s_dnew ?_)
  | (with_reducible refine' s_lcS ?_)
  | (with_reducible refine' s_make ?_)
  | (with_reducible refine' s_intI ?_)
  | ((with_reducible refine' s_gTup ?hs ?hl ?_); (case hs => walk_at "sq"); (case hl => exact rfl))
  | (with_reducible refine' s_itT ?_)
  | (with_reducible refine' s_itF ?_)
  | ((with_reducible refine' s_dgetS ?hp ?he ?_); (case hp => walk_at "hp"); (case he => first | exact penK_rest _ _ _ | exact penK_turn _ _ _ | exact penK_cells _ _ _ | exact sortK_rooms _ _ | exact sortK_doors _ _ | exact streetK_left _ _ _ _ | exact streetK_first _ _ _ _ | exact streetK_odd _ _ _ _ | exact streetK_right _ _ _ _ | assumption))
  | ((with_reducible refine' s_dputS ?hp ?he ?hl ?_); (case hp => walk_at "hp"); (case he => first | exact put_turn _ _ _ _ | exact put_rest _ _ _ _ | exact rfl); (case hl => exact small1000 (Nat.le_of_ble_eq_true rfl)))
  | ((with_reducible refine' s_ixL ?hs ?he ?_); (case hs => walk_at "sq"); (case he => first | assumption | exact rfl))
  | ((with_reducible refine' s_ixT ?hs ?he ?_); (case hs => walk_at "sq"); (case he => first | assumption | exact rfl))
  | ((with_reducible refine' s_lenL ?hs ?_); (case hs => walk_at "sq"))
  | ((with_reducible refine' s_lenZ ?hs ?_); (case hs => assumption))
  | ((with_reducible refine' s_ixS ?hs ?he ?_); (case hs => assumption); (case he => first | assumption | exact rfl))
  | ((with_reducible refine' s_lstOf ?hs ?_); (case hs => walk_at "sq"))
  | ((with_reducible refine' s_slL ?hs ?_); (case hs => walk_at "sq"))
  | ((with_reducible refine' s_tyL ?hs ?_); (case hs => walk_at "sq"))
  | ((with_reducible refine' s_append ?hp ?hl ?_); (case hp => walk_at "hp"); (case hl => walk_at "ar"))
  | ((with_reducible refine' s_neL ?ha ?hb ?h0 ?_); (case ha => walk_at "sq"); (case hb => walk_at "sq"); (case h0 => first | exact Or.inr rfl | exact Or.inl rfl))
  | ((with_reducible refine' s_eqL ?ha ?hb ?h0 ?_); (case ha => walk_at "sq"); (case hb => walk_at "sq"); (case h0 => first | exact Or.inr rfl | exact Or.inl rfl))
  | ((with_reducible refine' s_clear ?hp ?_); (case hp => walk_at "hp"))
  | ((with_reducible refine' s_reverse ?hp ?_); (case hp => walk_at "hp"))
  | ((with_reducible refine' s_fldV ?hp ?hc ?hn ?he ?_); (case hp => walk_at "hp"); (case hc => assumption); (case hn => assumption); (case he => walk_at "lk"))
  | (with_reducible refine' s_methO ?_)
  | ((with_reducible refine' s_methV ?hp ?hn ?_); (case hp => walk_at "hp"); (case hn => walk_at "lk"))
  )
local macro_rules | `(tactic| walk_at "xs") => `(tactic| repeat (walk_at "x1"))
local macro_rules | `(tactic| walk_at "go") => `(tactic| ((try dsimp only [cxOf, Cx.nox, Cx.wish]); walk_at "xs"))
local macro_rules | `(tactic| walk_at "xu") => `(tactic| repeat (first | walk_at "x1" | (with_reducible refine' s_muU ?_)))

def K4 (CS CT : Addr) (H : Hp) (mv sv : V) (ol : Addr) (os : List V) (D : TData) : Prop := StreetO CS CT (fun _ => False) H mv D ∧ StreetAt (fun _ => False) H sv D ∧ H ol = some (.lst os) ∧ PySem.W.EachIs (SortO CS (fun _ => False) H) os D.odd
theorem K4.same {CS CT : Addr} {H H' : Hp} {mv sv : V} {ol : Addr} {os : List V} {D : TData} (h : K4 CS CT H mv sv ol os D) (s : Same H H') : K4 CS CT H' mv sv ol os D :=
  ⟨h.1.same s, h.2.1.same s, s _ _ h.2.2.1, Each.imp (fun _ _ z => z.same s) h.2.2.2⟩
theorem K4.sb {CS CT : Addr} {H H' : Hp} {mv sv : V} {ol p c : Addr} {os : List V} {D : TData} {n : Nat} (h : K4 CS CT H mv sv ol os D) (s : Sb p H H') (hP : Pen H p c n) : K4 CS CT H' mv sv ol os D :=
  ⟨h.1.sb s hP, h.2.1.sb s hP, s _ _ (hP.ne h.2.2.1) h.2.2.1, Each.imp (fun _ _ z => z.sb s hP) h.2.2.2⟩
def Ints (xs : List V) : Prop := ∀ v ∈ xs, ∃ i : Int, v = .int i
theorem Ints.app {xs ys : List V} (h : Ints xs) (h2 : Ints ys) : Ints (xs ++ ys) := fun v hv => (List.mem_append.mp hv).elim (h v) (h2 v)
theorem Ints.one (i : Int) : Ints [.int i] := fun v hv => ⟨i, List.mem_singleton.mp hv⟩
theorem TOk.at' {D : TData} (ok : TOk D) (h : Int) : SOk (D.at' h) := by
  unfold TData.at'
  split
  · exact ok.l
  · cases e : D.odd[(h - D.first).toNat]? with
    | none => exact ok.r
    | some S => exact ok.o S (List.mem_of_getElem? e)
theorem SortO.ref {C : Addr} {av : Addr → Prop} {H : Hp} {v : V} {S : SData} (h : SortO C av H v S) : ∃ x dx fs, v = .ref x ∧ H x = some (.ins C dx fs) := by
  obtain ⟨x, dx, ra, da, ts, rfl, _, h1, _⟩ := h
  exact ⟨x, dx, _, rfl, h1⟩
theorem DpAll.app {K : PySem.W.Frag} {H : Hp} : ∀ {xs ys : List V} {ds es : List PyData}, DpAll K H xs ds → DpAll K H ys es → DpAll K H (xs ++ ys) (ds ++ es)
  | _, _, _, _, .nil, h => h
  | _, _, _, _, .cons r t, h => .cons r (DpAll.app t h)
theorem ints_dp {K : PySem.W.Frag} {H : Hp} (a : Int) : ∀ ks : List Nat, DpAll K H (ks.map fun i => V.int (a + (i : Nat))) (ks.map fun i => PyData.int (a + (i : Nat)))
  | [] => .nil
  | k :: r => .cons (.int _) (ints_dp a r)
theorem GdA.app {k a b : Nat} : ∀ {ds es : List PyData}, GdA k a ds → GdA k b es → GdA k (a + b) (ds ++ es)
  | [], es, _, h => h.mono (Nat.le_refl _) (Nat.le_add_left _ _)
  | d :: r, es, h, h2 => by
    have h0 := h
    obtain ⟨l, dp, wt, sh, sw⟩ := h
    simp only [PyData.canLayAll0, Bool.and_eq_true] at l
    simp only [PyData.depthAll] at dp
    simp only [PyData.weightAll] at wt
    simp only [PyData.intsShortAll, Bool.and_eq_true] at sh
    simp only [PyData.showableAll, Bool.and_eq_true] at sw
    have hd : Gd k d.weight d := ⟨l.1, Nat.le_trans (Nat.le_max_left _ _) dp, Nat.le_refl _, sh.1, sw.1⟩
    have ht : GdA k (PyData.weightAll r) r := ⟨l.2, Nat.le_trans (Nat.le_max_right _ _) dp, Nat.le_refl _, sh.2, sw.2⟩
    exact (GdA.cons hd (GdA.app ht h2)).mono (Nat.le_refl _) (by omega)
theorem nm_left : Nm "left" := ⟨by decide +kernel, by decide +kernel, by unfold Lt; decide +kernel⟩
theorem nm_right : Nm "right" := ⟨by decide +kernel, by decide +kernel, by unfold Lt; decide +kernel⟩
def placesD (D : TData) : List PyData := (([.str "left"] : List PyData) ++ (List.range D.odd.length).map fun i => PyData.int (D.first + (i : Nat))) ++ [.str "right"]
theorem rgV_odd (D : TData) : rgV D.first (D.first + D.odd.length) = (List.range D.odd.length).map fun i => V.int (D.first + (i : Nat)) := by
  unfold rgV
  rw [show (D.first + (D.odd.length : Int) - D.first).toNat = D.odd.length by omega]
theorem places_dp {K : PySem.W.Frag} {H : Hp} (D : TData) : DpAll K H (placesV D) (placesD D) := by
  unfold placesV placesD
  rw [rgV_odd]
  exact DpAll.app (DpAll.app (.cons (.str _) .nil) (ints_dp _ _)) (.cons (.str _) .nil)
theorem places_gd {D : TData} (ok : TOk D) : Gd 4 1000 (.list (placesD D)) := by
  have n := ok.n
  have f := ok.f
  have z := GdA.all (k := 1) (n := 7) (ds := (List.range D.odd.length).map fun i => PyData.int (D.first + (i : Nat))) fun d hd => by
    obtain ⟨i, hi, rfl⟩ := List.mem_map.mp hd
    have := List.mem_range.mp hi
    exact Gd.int (by omega) (by omega)
  rw [List.length_map, List.length_range] at z
  have q := GdA.app (GdA.app (GdA.cons (Gd.str nm_left) GdA.nil) z) (GdA.cons (Gd.str nm_right) GdA.nil)
  exact (Gd.list q).mono (by decide) (by omega)
def rRg (a b : Int) (H1 : Hp) (f : Addr → Hp → Prop) : Prop := RgOk a b ∧ rNO H1 (.lst (rgV a b)) f
def rII (x y : V) (f : Int → Int → Prop) : Prop := ∃ i j, x = .int i ∧ y = .int j ∧ f i j
theorem s_lstRg {te : L2.St → Hp → (Int → Int → Hp → Prop) → Prop} {σ : L2.St} {H : Hp} {Q : VK} (q : te σ H fun a b H1 => rRg a b H1 fun l H2 => Q (.ref l) H2) : tLstRg te σ H Q := q
theorem s_rg2 {ta tb : TE} {σ : L2.St} {H : Hp} {f : Int → Int → Hp → Prop} (q : ta σ H fun x H1 => tb σ H1 fun y H2 => rII x y fun i j => f i j H2) : tRg2 ta tb σ H f := q
theorem s_ii {i j : Int} {f : Int → Int → Prop} (q : f i j) : rII (.int i) (.int j) f := ⟨i, j, rfl, rfl, q⟩
def spLaw (K : PySem.W.Frag) : Sp := fun vs H Q _ => ∃ (a : Addr) (ns : List Int), vs = [.ref a] ∧ SqL K H a (ns.map V.int) ∧ ns.length ≤ 63 ∧ ∀ H', Q (.bl true) H'
theorem ok_law {P : Program} {w : World} {K : PySem.W.Frag} {mg : Str → Option Value} {base : Heap} (T : Tx K mg) : FnG P w K mg base 8 T.a_law T.fd_law ["script"] ((spLaw K)) := by
  refine okG T.F_law sc_law (fun vs H Q E h => ?_) (fun cdv A outer s H vs Q E hr hgu h => ?_)
  · obtain ⟨a, ns, rfl, _⟩ := h
    rfl
  · obtain ⟨a, ns, rfl, ha, hl, k⟩ := h
    have hu := hu_of hr
    refine ⟨_, (pss_cons (ps_set (i := 1) (sc_law).nd rfl (Or.inr rfl) (pe_call (ok_law_pen T) (hr.mono (by decide)) (by rfl) T.g_law_pen T.k_law_pen T.b_law_pen .nil pass0 (pa_cons (pv 0) pa_nil)))
      (pss_cons (ps_for PassesOwn.never rfl (pi_range1 rfl T.z_range (pa_cons (pe_op op_add pe_int (pe_callB (call_min2 rfl) (by rfl) T.z_min (by decide +kernel) (pa_cons pe_int (pa_cons (pe_callB call_lenL (by rfl) T.z_len (by decide +kernel) (pa_cons (pv 0) pa_nil)) pa_nil)))) pa_nil)) (pg_name (i := 2) (sc_law).nd rfl (Or.inl rfl))
      (pss_cons (ps_set (i := 3) (sc_law).nd rfl (Or.inl rfl) (pe_call (ok_law_street T) (hr.mono (by decide)) (by rfl) T.g_law_street T.k_law_street T.b_law_street .nil pass0 (pa_cons (pv 1) (pa_cons pe_int (pa_cons pe_int (pa_cons pe_int pa_nil))))))
      (pss_cons (ps_set (i := 4) (sc_law).nd rfl (Or.inl rfl) (pe_call (ok_law_made T) (hr.mono (by decide)) (by rfl) T.g_law_made T.k_law_made T.b_law_made .nil pass0 (pa_cons (pv 3) pa_nil)))
      (pss_cons (ps_asg (pe_tup (pa_cons (pe_meth0 (pv 4) T.cl_Street T.m_Street_first (ok_Street_first T) (hr.mono (by decide)) T.b_Street_first .nil pass0) (pa_cons (pe_meth0 (pv 4) T.cl_Street T.m_Street_odd (ok_Street_odd T) (hr.mono (by decide)) T.b_Street_odd .nil pass0) pa_nil))) (pg_tup rfl (pgs_cons (pg_name (i := 5) (sc_law).nd rfl (Or.inr rfl)) (pgs_cons (pg_name (i := 6) (sc_law).nd rfl (Or.inl rfl)) pgs_nil))))
      (pss_cons (ps_set (i := 7) (sc_law).nd rfl (Or.inl rfl) (pe_lst (pa_cons (pe_op op_sub (pv 5) pe_int) (pa_cons (pv 5) (pa_cons (pe_op op_sub (pe_op op_add (pv 5) (pe_callB call_lenL (by rfl) T.z_len (by decide +kernel) (pa_cons (pv 6) pa_nil))) pe_int) (pa_cons (pe_op op_add (pv 5) (pe_callB call_lenL (by rfl) T.z_len (by decide +kernel) (pa_cons (pv 6) pa_nil))) (pa_cons (pe_op op_sub (pe_op op_pow pe_int pe_int) pe_int) (pa_cons (pe_op op_sub pe_int (pe_op op_pow pe_int pe_int)) (pa_cons pe_int pa_nil)))))))))
      (pss_cons (ps_set (i := 7) (sc_law).nd rfl (Or.inl rfl) (pe_op op_cat (pe_op op_cat (pv 7) (pe_lc (own := [("k", 8)]) rfl (sc_law).nd (pi_range1 rfl T.z_range (pa_cons (pe_callB call_lenL (by rfl) T.z_len (by decide +kernel) (pa_cons (pv 6) pa_nil)) pa_nil)) (blkOk_by (own := [("k", 8)]) (N := n_law) (sc := defScope s_law) (by decide +kernel)) (fun _ _ _ _ _ => (pg_name (i := 8) (sc_law).nd rfl (Or.inl rfl))) (fun _ _ _ _ _ => pts_nil) (fun _ _ _ _ _ => (pe_op op_add (pv 5) (pv 8))))) (pe_lc (own := [("k", 8)]) rfl (sc_law).nd (pi_range1 rfl T.z_range (pa_cons pe_int pa_nil)) (blkOk_by (own := [("k", 8)]) (N := n_law) (sc := defScope s_law) (by decide +kernel)) (fun _ _ _ _ _ => (pg_name (i := 8) (sc_law).nd rfl (Or.inl rfl))) (fun _ _ _ _ _ => pts_nil) (fun _ _ _ _ _ => (pe_op op_sub (pe_call (ok_law_draw T) (hr.mono (by decide)) (by rfl) T.g_law_draw T.k_law_draw T.b_law_draw .nil pass0 (pa_cons (pv 1) (pa_cons (pe_op op_pow pe_int pe_int) pa_nil))) (pe_op op_mul pe_int (pe_op op_pow pe_int pe_int)))))))
      (pss_cons (ps_for PassesOwn.never rfl (pi_list (pe_call (ok_law_shuffled T) (hr.mono (by decide)) (by rfl) T.g_law_shuffled T.k_law_shuffled T.b_law_shuffled .nil pass0 (pa_cons (pv 1) (pa_cons (pv 7) pa_nil)))) (pg_name (i := 9) (sc_law).nd rfl (Or.inl rfl))
      (pss_cons (ps_set (i := 10) (sc_law).nd rfl (Or.inl rfl) (pe_ifExp (pt_cmpR op_lt (pv 9) (pv 5) (nomark _)) (pe_meth0 (pv 4) T.cl_Street T.m_Street_left (ok_Street_left T) (hr.mono (by decide)) T.b_Street_left .nil pass0) (pe_meth0 (pv 4) T.cl_Street T.m_Street_right (ok_Street_right T) (hr.mono (by decide)) T.b_Street_right .nil pass0)))
      (Evl.pss_cut (ps_if (pt_chain op_le op_lt pe_int (pe_op op_sub (pv 9) (pv 5)) (pe_callB call_lenL (by rfl) T.z_len (by decide +kernel) (pa_cons (pv 6) pa_nil)))
      (pss_one (ps_set (i := 10) (sc_law).nd rfl (Or.inl rfl) (pe_ix ix_list (pv 6) (pe_op op_sub (pv 9) (pv 5)) (fun _ _ => rfl))))
      pss_nil)
      (pss_one (ps_if (PW.pt (pw_or (pt_cmpR (op_neOwn (ok_Sort_eqT T) T.oe_Sort T.b_Sort_eq (hr.mono (by decide))) (pe_meth (pv 4) T.cl_Street T.m_Street_sort_at (ok_Street_sort_at T) (hr.mono (by decide)) T.b_Street_sort_at .nil pass0 (pa_cons (pv 9) pa_nil)) (pv 10) (nomark _)) (pw_or1 (pt_cmpR (op_neD hr.units) (pe_meth0 (pe_meth (pv 4) T.cl_Street T.m_Street_sort_at (ok_Street_sort_at T) (hr.mono (by decide)) T.b_Street_sort_at .nil pass0 (pa_cons (pv 9) pa_nil)) T.cl_Sort T.m_Sort_rooms (ok_Sort_rooms T) (hr.mono (by decide)) T.b_Sort_rooms .nil pass0) (pe_dget hu (pe_call (ok_law_at T) (hr.mono (by decide)) (by rfl) T.g_law_at T.k_law_at T.b_law_at .nil pass0 (pa_cons (pv 3) (pa_cons (pv 9) pa_nil))) pe_str (fun _ _ => rfl)) (nomark _)))))
      (pss_one (ps_ret pe_bl))
      pss_nil)))))
      (pss_cons (ps_for PassesOwn.never rfl (pi_range1 rfl T.z_range (pa_cons pe_int pa_nil)) (pg_name (i := 11) (sc_law).nd rfl (Or.inl rfl))
      (pss_cons (ps_set (i := 12) (sc_law).nd rfl (Or.inl rfl) (pe_call (ok_places_of T) (hr.mono (by decide)) (by rfl) T.g_places_of T.k_places_of T.b_places_of .nil pass0 (pa_cons (pv 4) pa_nil)))
      (pss_cons (ps_if (pt_cmpR op_ne (pe_callB (call_reprD hr.units hgu) (by rfl) T.z_repr (by decide +kernel) (pa_cons (pv 12) pa_nil)) (pe_callB (call_reprD hr.units hgu) (by rfl) T.z_repr (by decide +kernel) (pa_cons (pe_op op_cat (pe_op op_cat (pe_lst (pa_cons pe_str pa_nil)) (pe_listRg rfl (by rfl) T.z_list (prg_2 (by rfl) T.z_range (pv 5) (pe_op op_add (pv 5) (pe_callB call_lenL (by rfl) T.z_len (by decide +kernel) (pa_cons (pv 6) pa_nil)))))) (pe_lst (pa_cons pe_str pa_nil))) pa_nil)) (nomark _))
      (pss_one (ps_ret pe_bl))
      pss_nil)
      (pss_one (ps_expr (pe_bm PySem.F.plainAttrs_list PySem.F.slot_list_append PySem.F.type_list_append mt_append (pv 12) (pa_cons pe_non pa_nil)))))))
      (pss_one (ps_if (pt_cmpR (op_neOwn (ok_Street_eqT T) T.oe_Street T.b_Street_eq (hr.mono (by decide))) (pe_make T.M_Street (ok_Street_init T) (hr.mono (by decide)) (by rfl) T.mg_Street T.b_Street_init .nil pass0 (pa_cons (pe_meth (pv 4) T.cl_Street T.m_Street_sort_at (ok_Street_sort_at T) (hr.mono (by decide)) T.b_Street_sort_at .nil pass0 (pa_cons (pe_op op_sub (pv 5) pe_int) pa_nil)) (pa_cons (pv 5) (pa_cons (pv 6) (pa_cons (pe_meth (pv 4) T.cl_Street T.m_Street_sort_at (ok_Street_sort_at T) (hr.mono (by decide)) T.b_Street_sort_at .nil pass0 (pa_cons (pe_op op_add (pv 5) pe_int) pa_nil)) pa_nil))))) (pv 4) (nomark _))
      (pss_one (ps_ret pe_bl))
      pss_nil))))))))))
      (pss_one (ps_ret pe_bl)))), ?_⟩
    walk_at "go"
    refine ⟨a, ns, rfl, ha, hl, fun p c H1 hp sm1 hP1 => ?_⟩
    have ha1 : SqL K H1 a (ns.map V.int) := SqL.ext ha sm1
    walk_at "xs"
    refine ⟨6, _, rfl, ?_⟩
    walk_at "xs"
    have lb : (0 : Int) ≤ 4 + (if ((ns.map V.int).length : Int) < 6 then ((ns.map V.int).length : Int) else 6) ∧ 4 + (if ((ns.map V.int).length : Int) < 6 then ((ns.map V.int).length : Int) else 6) ≤ 10 := by
      split <;> omega
    generalize (4 : Int) + (if ((ns.map V.int).length : Int) < 6 then ((ns.map V.int).length : Int) else 6) = bouts at lb
    clear ha1 ha hl
    refine s_forRI (fun i σ H' => ∃ (o2 o3 o4 o5 o6 o7 o8 o9 o10 o11 o12 : Option V), σ = [some (.ref a), some (.ref p), o2, o3, o4, o5, o6, o7, o8, o9, o10, o11, o12] ∧ Pen H' p c (5000 * i)) lb.1 (by omega)
      ⟨none, none, none, none, none, none, none, none, none, none, none, rfl, hP1⟩ ?_ ?_
    · rintro i σ H2 hi ⟨o2, o3, o4, o5, o6, o7, o8, o9, o10, o11, o12, rfl, hP2⟩
      walk_at "xs"
      refine ⟨p, c, 4, 8, 8, _, rfl, hP2, by omega, by decide, by decide, by decide, by decide, by decide, by decide, fun sv D H3 ok hD s3 hP3 => ?_⟩
      have hD0 := hD.weak (av' := fun _ => False) fun q z => z.elim
      walk_at "xs"
      refine ⟨sv, D, rfl, hD0, ok, fun mv H4 hM sm4 => ?_⟩
      have hM0 := hM.weak (av' := fun _ => False) fun q z => z.elim
      have hM1 := hM0
      obtain ⟨x, dx, oa, lv, rv, os0, rfl, _, g4, _⟩ := hM1
      walk_at "xs"
      refine ⟨_, D, rfl, hM0, ?_⟩
      walk_at "xs"
      refine ⟨_, D, rfl, hM0, ok, fun ol os H5 hol e5 so5 sm5 => ?_⟩
      have k5 : K4 T.c_Sort T.c_Street H5 (.ref x) sv ol os D := ⟨hM0.same sm5, (hD0.same sm4).same sm5, e5, Each.imp (fun v S (z : SortO T.c_Sort (fun q => H4 q ≠ none ∨ q = ol) H5 v S) => z.weak fun q z => z.elim) so5⟩
      have oln : os.length = D.odd.length := Each.len so5
      have on := ok.n
      have hP5 : Pen H5 p c (5000 * i + 3000) := (hP3.same sm4).same sm5
      have g5 := sm5 _ _ g4
      clear hD0 hM0 hM so5 hD hP2 hP3 s3 sm4 sm5 hol g4
      walk_at "xs"
      refine s_no fun t6 H6 ht6 sm6 e6 => ?_
      walk_at "xs"
      have e56 := sm6 _ _ e5
      walk_at "xs"
      refine s_no fun sl H7 hsl sm7 e7 => ?_
      have sm57 : Same H5 H7 := Same.trans sm6 sm7
      have k7 := k5.same sm57
      have hP7 := hP5.same sm57
      have e57 := sm57 _ _ e5
      have g7 := sm57 _ _ g5
      have i7 : Ints [.int (D.first - 1), .int D.first, .int (D.first + (os.length : Nat) - 1), .int (D.first + (os.length : Nat)), .int (10 ^ Int.toNat 30 - 1), .int (1 - 10 ^ Int.toNat 30), .int 0] := by
        intro v hv
        simp only [List.mem_cons, List.not_mem_nil, or_false] at hv
        rcases hv with rfl | rfl | rfl | rfl | rfl | rfl | rfl <;> exact ⟨_, rfl⟩
      have l7 : ([.int (D.first - 1), .int D.first, .int (D.first + (os.length : Nat) - 1), .int (D.first + (os.length : Nat)), .int (10 ^ Int.toNat 30 - 1), .int (1 - 10 ^ Int.toNat 30), .int 0] : List V).length = 7 := rfl
      have e7' : H7 sl = some (.lst [.int (D.first - 1), .int D.first, .int (D.first + (os.length : Nat) - 1), .int (D.first + (os.length : Nat)), .int (10 ^ Int.toNat 30 - 1), .int (1 - 10 ^ Int.toNat 30), .int 0]) := e7
      generalize ([.int (D.first - 1), .int D.first, .int (D.first + (os.length : Nat) - 1), .int (D.first + (os.length : Nat)), .int (10 ^ Int.toNat 30 - 1), .int (1 - 10 ^ Int.toNat 30), .int 0] : List V) = s7 at e7' i7 l7
      clear e7 e6 sm6 sm7 k5 hP5 e5 g5 e56 hsl ht6
      walk_at "xs"
      refine s_lcRI (fun D2 k acc H' => Same H7 H' ∧ Ints acc) (by omega) (by omega) ?_ ?_ ?_
      · intro D2 H' _ sm _
        exact ⟨sm, by intro v hv; cases hv⟩
      · rintro D2 k2 acc H' hD hk hl hA ⟨sm, hi⟩
        walk_at "xs"
        exact s_acc hA hl (by omega) fun H'' s'' e'' => ⟨Same.mut sm s'' hD, hi.app (Ints.one _)⟩
      · rintro b1 ac1 H8 hb1 hl1 hA1 ⟨sm8, i8⟩
        have e78 := sm8 _ _ e7'
        have al1 : ac1.length ≤ 8 := by omega
        walk_at "xs"
        refine s_cat e78 hA1 (by omega) ?_
        refine s_no fun b2 H9 hb2 sm9 e9 => ?_
        have sm79 : Same H7 H9 := Same.trans sm8 sm9
        have k9 := k7.same sm79
        have hP9 := hP7.same sm79
        have e59 := sm79 _ _ e57
        have g9 := sm79 _ _ g7
        have b2p := hP7.neN (Same.free' sm8 hb2)
        clear k7 hP7 e57 g7 e78 e7' hA1 hb1 hb2
        walk_at "xs"
        refine s_lcRI (fun D2 k acc H' => Sb p H9 H' ∧ Pen H' p c (5000 * i + 3000 + k) ∧ Ints acc) (by decide) (by decide) ?_ ?_ ?_
        · intro D2 H' _ sm _
          exact ⟨Sb.of_same sm, hP9.same sm, by intro v hv; cases hv⟩
        · rintro D2 k2 acc H' hD hk hl hA ⟨sb, hP', hi2⟩
          walk_at "xs"
          refine ⟨p, c, _, _, rfl, hP', by omega, by decide, by decide, fun dr H10 _ _ s10 hP10 => ?_⟩
          have Dp : D2 ≠ p := hP9.neN hD
          have Dc : D2 ≠ c := hP9.neC hD
          walk_at "xs"
          exact s_acc (s10.look Dp hA) hl (by omega) fun H'' s'' e'' => ⟨(sb.trans s10).mut s'' hD, hP10.sb s'' Dp Dc, hi2.app (Ints.one _)⟩
        · rintro b3 ac3 H10 hb3 hl3 hA3 ⟨s10, hP10, i10⟩
          have al3 : ac3.length = 4 := hl3
          have e910 := s10.look b2p e9
          walk_at "xs"
          refine s_cat e910 hA3 (by rw [List.length_append]; omega) ?_
          refine s_no fun b4 H11 hb4 sm11 e11 => ?_
          have iAll : Ints ((s7 ++ ac1) ++ ac3) := (i7.app i8).app i10
          have lAll : ((s7 ++ ac1) ++ ac3).length ≤ 19 := by rw [List.length_append, List.length_append]; omega
          generalize ((s7 ++ ac1) ++ ac3) = ws at e11 iAll lAll
          have k11 := (k9.sb s10 hP9).same sm11
          have hP11 : Pen H11 p c (5000 * i + 3010) := (hP10.same sm11).mono (by omega)
          have olp : ol ≠ p := hP9.ne e59
          have e511 := sm11 _ _ (s10.look olp e59)
          have g11 := sm11 _ _ (s10.look (hP9.neI g9) g9)
          clear k9 hP9 e59 g9 e9 s10 hP10 hA3 e910 sm11 hb4 hb3 i10 i8 i7 l7
          walk_at "xs"
          refine ⟨p, c, b4, ws, _, rfl, hP11, by omega, e11, by omega, fun q ys H12 hq e12 py s12 hP12 => ?_⟩
          have iy : Ints ys := fun v hv => iAll v (py.mem_iff.mp hv)
          have k12 := k11.sb s12 hP11
          have g12 := s12.look (hP11.neI g11) g11
          have e512 := s12.look olp e511
          have hP12' : Pen H12 p c (5000 * i + 3100) := hP12.mono (by omega)
          clear k11 hP11 g11 e511 e11 iAll s12 hP12 hq lAll
          walk_at "xs"
          refine s_forLI (xs := ys) (fun i2 σ H' => ∃ (o9 o10 : Option V), σ = [some (.ref a), some (.ref p), some (.int i), some sv, some (.ref x), some (.int D.first), some (.ref ol), some (.ref b4), o8, o9, o10, o11, o12] ∧ Same H12 H') (SqL.of e12)
            ⟨_, _, rfl, Same.refl _⟩ ?_ ?_ ?_
          · rintro i2 σ H' _ ⟨_, _, _, sm⟩
            exact SqL.of (sm _ _ e12)
          · rintro i2 v σ H13 hv ⟨o9, o10, rfl, sm13⟩
            obtain ⟨hh, rfl⟩ := iy v (List.mem_of_getElem? hv)
            have k13 := k12.same sm13
            have g13 := sm13 _ _ g12
            walk_at "xs"
            refine s_ifQ (fun y H' => SortO T.c_Sort (fun _ => False) H' y (if hh < D.first then D.left else D.right) ∧ Same H13 H') ?_ ?_
            · intro Q' q'
              refine ite2 (fun c1 => ?_) (fun c1 => ?_)
              · have c2 : hh < D.first := by simpa using c1
                walk_at "xs"
                refine ⟨_, D, rfl, k13.1, ok, fun v' H' so sm => ?_⟩
                exact q' _ _ ⟨by rw [if_pos c2]; exact so.weak fun q z => z.elim, sm⟩
              · have c2 : ¬ hh < D.first := by simpa using c1
                walk_at "xs"
                refine ⟨_, D, rfl, k13.1, ok, fun v' H' so sm => ?_⟩
                exact q' _ _ ⟨by rw [if_neg c2]; exact so.weak fun q z => z.elim, sm⟩
            · rintro due H14 ⟨so14, sm14⟩
              have k14 := k13.same sm14
              have g14 := sm14 _ _ g13
              have e514 := sm14 _ _ (sm13 _ _ e512)
              walk_at "xs"
              refine s_cut (fun σ' H' => ∃ due2 : V, σ' = [some (.ref a), some (.ref p), some (.int i), some sv, some (.ref x), some (.int D.first), some (.ref ol), some (.ref b4), o8, some (.int hh), some due2, o11, o12] ∧ SortO T.c_Sort (fun _ => False) H' due2 (D.at' hh) ∧ H' = H14) ?_ ?_
              · walk_at "xs"
                refine ite2 (fun c1 => ?_) (fun c1 => ?_)
                · have d1 : ¬ hh - D.first < 0 := by have : 0 ≤ hh - D.first := by simpa using c1
                                                     omega
                  walk_at "xs"
                  refine ite2 (fun c2 => ?_) (fun c2 => ?_)
                  · have d2 : hh - D.first < os.length := by simpa using c2
                    have hk : (hh - D.first).toNat < os.length := by omega
                    obtain ⟨hd, so⟩ := Each.at k14.2.2.2 hk
                    have ea : atI os (hh - D.first) = some os[(hh - D.first).toNat] := by
                      have := atI_nat (xs := os) (List.getElem?_eq_getElem hk)
                      rwa [show (((hh - D.first).toNat : Nat) : Int) = hh - D.first by omega] at this
                    walk_at "xs"
                    exact ⟨_, rfl, by rw [TData.at_odd d1 (List.getElem?_eq_getElem hd)]; exact so, rfl⟩
                  · have d2 : ¬ hh - D.first < D.odd.length := by
                      rw [← oln]
                      simpa using c2
                    walk_at "xs"
                    refine ⟨_, rfl, ?_, rfl⟩
                    rw [TData.at_right d1 d2]
                    rw [if_neg (by omega)] at so14
                    exact so14
                · have d1 : hh - D.first < 0 := by
                    have : ¬ 0 ≤ hh - D.first := by simpa using c1
                    omega
                  walk_at "xs"
                  refine ⟨_, rfl, ?_, rfl⟩
                  rw [TData.at_left d1]
                  rw [if_pos (by omega)] at so14
                  exact so14
              · rintro σ' H' ⟨due2, rfl, du, rfl⟩
                have okS := TOk.at' ok hh
                obtain ⟨xd, dd, fd, rfl, ud⟩ := du.ref
                walk_at "xs"
                refine ⟨_, D, hh, rfl, k14.1, ok, fun v1 H15 so15 sm15 => ?_⟩
                have so1 := so15.weak (av' := fun _ => False) fun q z => z.elim
                obtain ⟨x1, d1, f1, rfl, u1⟩ := so1.ref
                walk_at "xs"
                refine ⟨x1, xd, d1, dd, f1, fd, rfl, rfl, u1, sm15 _ _ ud, x1, xd, rfl, ⟨_, okS, so1, du.same sm15⟩, fun H16 s16 => ⟨true, rfl, ?_⟩⟩
                have sm16 : Same H' H16 := Same.trans sm15 s16
                have g16 := sm16 _ _ g14
                walk_at "xs"
                rw [Bool.not_true]
                walk_at "xs"
                refine ⟨_, D, hh, rfl, k14.1.same sm16, ok, fun v2 H17 so17 sm17 => ?_⟩
                have so2 := so17.weak (av' := fun _ => False) fun q z => z.elim
                have so20 := so2
                obtain ⟨x2, d2, ra2, da2, ts2, rfl, _, u2, _⟩ := so20
                walk_at "xs"
                refine ⟨_, _, rfl, so2, fun l18 H18 hl18 sm18 e18 => ?_⟩
                have sm1418 : Same H' H18 := Same.trans (Same.trans sm16 sm17) sm18
                walk_at "xs"
                refine ⟨sv, D, hh, rfl, k14.2.1.same sm1418, fun v3 sa3 => ?_⟩
                obtain ⟨ad, rd, dd3, ts3, rfl, _, w1, w2, w3, w4⟩ := sa3
                walk_at "xs"
                have gr := (Gd.rooms okS.rn okS.rl.2).mono (k' := 4) (n' := 1000) (by decide) (by decide)
                refine ⟨_, _, .lst (SqL.of e18) (strs_dp _), .lst (SqL.of w2) (strs_dp _), gr.shaped, gr.shaped, ?_⟩
                rw [SeqAt.eqv_refl _ gr.lay, Bool.not_true]
                walk_at "xs"
                exact ⟨_, _, rfl, Same.trans (Same.trans sm13 sm14) sm1418⟩
          · rintro σ H13 ⟨o9, o10, rfl, sm13⟩
            walk_at "xs"
            have k13 := k12.same sm13
            have g13 := sm13 _ _ g12
            have e513 := sm13 _ _ e512
            have sdp := Gd.sd (places_gd ok)
            have dpp : (PyData.list (placesD D)).depth ≤ 20 := Nat.le_trans (places_gd ok).dep (by decide)
            refine s_forRI (fun i2 σ H' => ∃ (o11 o12 : Option V), σ = [some (.ref a), some (.ref p), some (.int i), some sv, some (.ref x), some (.int D.first), some (.ref ol), some (.ref b4), o8, o9, o10, o11, o12] ∧ Same H13 H') (by decide) (by decide)
              ⟨_, _, rfl, Same.refl _⟩ ?_ ?_
            · rintro i2 σ H14 hi2 ⟨o11, o12, rfl, sm14⟩
              have e514 := sm14 _ _ e513
              walk_at "xs"
              refine ⟨_, D, rfl, k13.1.same sm14, ok, fun l H15 hl15 sm15 e15 => ?_⟩
              have e515 := sm15 _ _ e514
              walk_at "xs"
              refine ⟨_, .list (placesD D), rfl, .lst (SqL.of e15) (places_dp D), sdp, dpp, ?_⟩
              walk_at "xs"
              refine s_no fun c1 H16 hc1 sm16 e16 => ?_
              have e516 := sm16 _ _ e515
              walk_at "xs"
              refine s_lstRg (s_rg2 ?_)
              walk_at "xs"
              refine s_ii ⟨?_, s_no fun c2 H17 hc2 sm17 e17 => ?_⟩
              · have f := ok.f
                exact ⟨by omega, by omega, by omega, by omega, by omega⟩
              walk_at "xs"
              refine s_cat (sm17 _ _ e16) e17 (by rw [rgV_length]; show 1 + _ ≤ 1000; omega) ?_
              refine s_no fun c3 H18 hc3 sm18 e18 => ?_
              walk_at "xs"
              refine s_no fun c4 H19 hc4 sm19 e19 => ?_
              walk_at "xs"
              refine s_cat (sm19 _ _ e18) e19 (by rw [List.length_append, rgV_length]; show (1 + _) + 1 ≤ 1000; omega) ?_
              refine s_no fun c5 H20 hc5 sm20 e20 => ?_
              rw [oln] at e20
              walk_at "xs"
              refine ⟨_, .list (placesD D), rfl, .lst (SqL.of (xs := placesV D) e20) (places_dp D), sdp, dpp, ?_⟩
              walk_at "xs"
              generalize PyData.shown _ = z
              rw [show (!decide (z = z)) = false by simp]
              have sm1520 : Same H15 H20 := Same.trans (Same.trans (Same.trans (Same.trans sm16 sm17) sm18) sm19) sm20
              have e1520 := sm1520 _ _ e15
              have pl : (placesV D).length < sizeLine := by
                rw [sizeLine_eq]
                unfold placesV
                rw [List.length_append, List.length_append, rgV_length]
                show (1 + _) + 1 < _
                omega
              walk_at "xs"
              refine s_mu fun H21 s21 e21 => ?_
              walk_at "xs"
              exact ⟨_, _, rfl, Same.mut (Same.trans (Same.trans sm14 sm15) sm1520) s21 (Same.free' sm14 hl15)⟩
            · rintro σ H14 ⟨o11, o12, rfl, sm14⟩
              have k14 := k13.same sm14
              have g14 := sm14 _ _ g13
              have f := ok.f
              walk_at "xs"
              refine ⟨_, D, _, rfl, k14.1, ok, fun v1 H15 so1 sm15 => ?_⟩
              rw [TData.at_left (by omega)] at so1
              have g15 := sm15 _ _ g14
              have k15 := k14.same sm15
              walk_at "xs"
              refine ⟨_, D, _, rfl, k15.1, ok, fun v2 H16 so2 sm16 => ?_⟩
              rw [TData.at_right (by omega) (by omega)] at so2
              have k16 := k15.same sm16
              have g16 := sm16 _ _ g15
              walk_at "xs"
              refine s_mkO fun y dy H17 hy hdy sm17 e17 => ?_
              refine ⟨y, dy, ol, v1, v2, os, D, rfl, e17, ((so1.same sm16).same sm17).weak fun q z => z.elim, (so2.same sm17).weak fun q z => z.elim, .inl (sm17 _ _ k16.2.2.1), Each.imp (fun v S (z : SortO T.c_Sort (fun _ => False) H16 v S) => z.same sm17) k16.2.2.2, ok, fun H18 oa' lv' rv' os' f1 f2 f3 f4 f5 f6 f7 => ⟨rfl, ?_⟩⟩
              have sm18 : Same H16 H18 := fun b o e => f7 b o (ne_of_none e hy) (sm17 b o e)
              have g18 := sm18 _ _ g16
              have wk : ∀ q, False → H17 q ≠ none := fun q z => z.elim
              walk_at "xs"
              refine ⟨y, x, dy, dx, _, _, rfl, rfl, f2, g18, y, x, rfl, ⟨D, ok, ⟨y, dy, oa', lv', rv', os', rfl, ⟨fun z => z, fun z => z⟩, f2, f3.weak wk, f4.weak wk, f5, Each.imp (fun _ _ z => z.weak wk) f6⟩, k16.1.same sm18⟩, fun H19 s19 => ⟨true, rfl, ?_⟩⟩
              walk_at "xs"
              rw [Bool.not_true]
              walk_at "xs"
              refine ⟨_, _, _, _, _, _, _, _, _, _, _, rfl, ?_⟩
              have sm1219 : Same H12 H19 := Same.trans (Same.trans (Same.trans (Same.trans (Same.trans sm13 sm14) sm15) sm16) sm18) s19
              exact (hP12'.same sm1219).mono (by omega)
    · rintro σ H2 ⟨o2, o3, o4, o5, o6, o7, o8, o9, o10, o11, o12, rfl, hP2⟩
      walk_at "xs"
      exact k _

end LH
end
section
set_option maxRecDepth 100000
set_option maxHeartbeats 4000000
namespace LH
open PySem L2
theorem all_mk {w : World} {K : PySem.W.Frag} {h : Heap} {mg : Str → Option Value} {fa c_Sort c_Street a_plain_door a_Sort_init a_Sort_eq a_Sort_rooms a_Sort_doors a_same_sort a_Street_init a_Street_eq a_Street_len a_Street_left a_Street_right a_Street_odd a_Street_first a_Street_sort_at a_places_of a_law_pen a_law_draw a_law_pick a_law_shuffled a_law_names a_law_sort a_law_price a_law_street a_law_made a_law_at a_law : Addr} (X : K.In h) (G : h.Ns mainGlobals mg) (hfa : mg "law" = some (.ref fa))
    {od_plain_door an_plain_door od_Sort_init an_Sort_init od_Sort_eq an_Sort_eq od_Sort_rooms an_Sort_rooms od_Sort_doors an_Sort_doors od_same_sort an_same_sort od_Street_init an_Street_init od_Street_eq an_Street_eq od_Street_len an_Street_len od_Street_left an_Street_left od_Street_right an_Street_right od_Street_odd an_Street_odd od_Street_first an_Street_first od_Street_sort_at an_Street_sort_at od_places_of an_places_of od_law_pen an_law_pen od_law_draw an_law_draw od_law_pick an_law_pick od_law_shuffled an_law_shuffled od_law_names an_law_names od_law_sort an_law_sort od_law_price an_law_price od_law_street an_law_street od_law_made an_law_made od_law_at an_law_at od_law an_law : Option Addr} {sl_plain_door sl_Sort_init sl_Sort_eq sl_Sort_rooms sl_Sort_doors sl_same_sort sl_Street_init sl_Street_eq sl_Street_len sl_Street_left sl_Street_right sl_Street_odd sl_Street_first sl_Street_sort_at sl_places_of sl_law_pen sl_law_draw sl_law_pick sl_law_shuffled sl_law_names sl_law_sort sl_law_price sl_law_street sl_law_made sl_law_at sl_law : Array (Option Value)} {oc_plain_door kV_plain_door dc_plain_door pm_plain_door cd_plain_door ct_plain_door oc_Sort_init kV_Sort_init dc_Sort_init pm_Sort_init cd_Sort_init ct_Sort_init oc_Sort_eq kV_Sort_eq dc_Sort_eq pm_Sort_eq cd_Sort_eq ct_Sort_eq oc_Sort_rooms kV_Sort_rooms dc_Sort_rooms pm_Sort_rooms cd_Sort_rooms ct_Sort_rooms oc_Sort_doors kV_Sort_doors dc_Sort_doors pm_Sort_doors cd_Sort_doors ct_Sort_doors oc_same_sort kV_same_sort dc_same_sort pm_same_sort cd_same_sort ct_same_sort oc_Street_init kV_Street_init dc_Street_init pm_Street_init cd_Street_init ct_Street_init oc_Street_eq kV_Street_eq dc_Street_eq pm_Street_eq cd_Street_eq ct_Street_eq oc_Street_len kV_Street_len dc_Street_len pm_Street_len cd_Street_len ct_Street_len oc_Street_left kV_Street_left dc_Street_left pm_Street_left cd_Street_left ct_Street_left oc_Street_right kV_Street_right dc_Street_right pm_Street_right cd_Street_right ct_Street_right oc_Street_odd kV_Street_odd dc_Street_odd pm_Street_odd cd_Street_odd ct_Street_odd oc_Street_first kV_Street_first dc_Street_first pm_Street_first cd_Street_first ct_Street_first oc_Street_sort_at kV_Street_sort_at dc_Street_sort_at pm_Street_sort_at cd_Street_sort_at ct_Street_sort_at oc_places_of kV_places_of dc_places_of pm_places_of cd_places_of ct_places_of oc_law_pen kV_law_pen dc_law_pen pm_law_pen cd_law_pen ct_law_pen oc_law_draw kV_law_draw dc_law_draw pm_law_draw cd_law_draw ct_law_draw oc_law_pick kV_law_pick dc_law_pick pm_law_pick cd_law_pick ct_law_pick oc_law_shuffled kV_law_shuffled dc_law_shuffled pm_law_shuffled cd_law_shuffled ct_law_shuffled oc_law_names kV_law_names dc_law_names pm_law_names cd_law_names ct_law_names oc_law_sort kV_law_sort dc_law_sort pm_law_sort cd_law_sort ct_law_sort oc_law_price kV_law_price dc_law_price pm_law_price cd_law_price ct_law_price oc_law_street kV_law_street dc_law_street pm_law_street cd_law_street ct_law_street oc_law_made kV_law_made dc_law_made pm_law_made cd_law_made ct_law_made oc_law_at kV_law_at dc_law_at pm_law_at cd_law_at ct_law_at oc_law kV_law dc_law pm_law cd_law ct_law : Value}
    (A_Sort : PySem.W.nsIn K mainGlobals "Sort" = some (some (.ref c_Sort)))
    (pg_Sort : PySem.W.plainGet K c_Sort Str.empty = true)
    (hd_Sort : PySem.W.hasDictIn K c_Sort = true)
    (po_Sort : PySem.W.plainOver K c_Sort = true)
    (sa_Sort : PySem.W.findIn K (.ref c_Sort) "__setattr__" = some (some (.builtin "object.__setattr__")))
    (mk_Sort : PySem.W.makesIn K c_Sort = true)
    (kc_Sort : PySem.W.keepIn K (.ref c_Sort) = true)
    (na_Sort_rooms : PySem.W.findIn K (.ref c_Sort) "_rooms" = some none)
    (na_Sort_doors : PySem.W.findIn K (.ref c_Sort) "_doors" = some none)
    (ne_Sort : PySem.W.findIn K (.ref c_Sort) "__ne__" = some (some (.builtin "object.__ne__")))
    (mro_Sort : PySem.W.mroIn K c_Sort (.type "object") = some true)
    (icc_Sort : PySem.W.findIn K (.ref c_Sort) "__class__" = some (some (.builtin "object.__class__")))
    (A_Street : PySem.W.nsIn K mainGlobals "Street" = some (some (.ref c_Street)))
    (pg_Street : PySem.W.plainGet K c_Street Str.empty = true)
    (hd_Street : PySem.W.hasDictIn K c_Street = true)
    (po_Street : PySem.W.plainOver K c_Street = true)
    (sa_Street : PySem.W.findIn K (.ref c_Street) "__setattr__" = some (some (.builtin "object.__setattr__")))
    (mk_Street : PySem.W.makesIn K c_Street = true)
    (kc_Street : PySem.W.keepIn K (.ref c_Street) = true)
    (na_Street_left : PySem.W.findIn K (.ref c_Street) "_left" = some none)
    (na_Street_first : PySem.W.findIn K (.ref c_Street) "_first" = some none)
    (na_Street_odd : PySem.W.findIn K (.ref c_Street) "_odd" = some none)
    (na_Street_right : PySem.W.findIn K (.ref c_Street) "_right" = some none)
    (ne_Street : PySem.W.findIn K (.ref c_Street) "__ne__" = some (some (.builtin "object.__ne__")))
    (mro_Street : PySem.W.mroIn K c_Street (.type "object") = some true)
    (icc_Street : PySem.W.findIn K (.ref c_Street) "__class__" = some (some (.builtin "object.__class__")))
    (icg : PySem.W.specialIn K (.builtin "object.__class__") "__get__" = some (some (.builtin "getset_descriptor.__get__")))
    (ict : PySem.W.takesIn K (.builtin "object.__class__") = some true)
    (A_plain_door : PySem.W.nsIn K mainGlobals "_plain_door" = some (some (.ref a_plain_door)))
    (l_plain_door : K.lookup a_plain_door = some ⟨oc_plain_door, od_plain_door, .func (PySem.W.fnOf "_plain_door" "_plain_door" (defArgs s_plain_door) (defBody s_plain_door) (defScope s_plain_door) .none kV_plain_door dc_plain_door pm_plain_door an_plain_door cd_plain_door ct_plain_door), sl_plain_door⟩)
    (cc_plain_door : PySem.W.codeIn K cd_plain_door "_plain_door" = true)
    (k_plain_door : PySem.W.keepIn K (.ref a_plain_door) = true)
    (A_Sort_init : PySem.W.findIn K (.ref c_Sort) "__init__" = some (some (.ref a_Sort_init)))
    (i_Sort_init : PySem.W.isFn K (.ref a_Sort_init) = true)
    (l_Sort_init : K.lookup a_Sort_init = some ⟨oc_Sort_init, od_Sort_init, .func (PySem.W.fnOf "__init__" "Sort.__init__" (defArgs s_Sort_init) (defBody s_Sort_init) (defScope s_Sort_init) .none kV_Sort_init dc_Sort_init pm_Sort_init an_Sort_init cd_Sort_init ct_Sort_init), sl_Sort_init⟩)
    (cc_Sort_init : PySem.W.codeIn K cd_Sort_init "Sort.__init__" = true)
    (k_Sort_init : PySem.W.keepIn K (.ref a_Sort_init) = true)
    (A_Sort_eq : PySem.W.findIn K (.ref c_Sort) "__eq__" = some (some (.ref a_Sort_eq)))
    (i_Sort_eq : PySem.W.isFn K (.ref a_Sort_eq) = true)
    (l_Sort_eq : K.lookup a_Sort_eq = some ⟨oc_Sort_eq, od_Sort_eq, .func (PySem.W.fnOf "__eq__" "Sort.__eq__" (defArgs s_Sort_eq) (defBody s_Sort_eq) (defScope s_Sort_eq) .none kV_Sort_eq dc_Sort_eq pm_Sort_eq an_Sort_eq cd_Sort_eq ct_Sort_eq), sl_Sort_eq⟩)
    (cc_Sort_eq : PySem.W.codeIn K cd_Sort_eq "Sort.__eq__" = true)
    (k_Sort_eq : PySem.W.keepIn K (.ref a_Sort_eq) = true)
    (A_Sort_rooms : PySem.W.findIn K (.ref c_Sort) "rooms" = some (some (.ref a_Sort_rooms)))
    (i_Sort_rooms : PySem.W.isFn K (.ref a_Sort_rooms) = true)
    (l_Sort_rooms : K.lookup a_Sort_rooms = some ⟨oc_Sort_rooms, od_Sort_rooms, .func (PySem.W.fnOf "rooms" "Sort.rooms" (defArgs s_Sort_rooms) (defBody s_Sort_rooms) (defScope s_Sort_rooms) .none kV_Sort_rooms dc_Sort_rooms pm_Sort_rooms an_Sort_rooms cd_Sort_rooms ct_Sort_rooms), sl_Sort_rooms⟩)
    (cc_Sort_rooms : PySem.W.codeIn K cd_Sort_rooms "Sort.rooms" = true)
    (k_Sort_rooms : PySem.W.keepIn K (.ref a_Sort_rooms) = true)
    (A_Sort_doors : PySem.W.findIn K (.ref c_Sort) "doors" = some (some (.ref a_Sort_doors)))
    (i_Sort_doors : PySem.W.isFn K (.ref a_Sort_doors) = true)
    (l_Sort_doors : K.lookup a_Sort_doors = some ⟨oc_Sort_doors, od_Sort_doors, .func (PySem.W.fnOf "doors" "Sort.doors" (defArgs s_Sort_doors) (defBody s_Sort_doors) (defScope s_Sort_doors) .none kV_Sort_doors dc_Sort_doors pm_Sort_doors an_Sort_doors cd_Sort_doors ct_Sort_doors), sl_Sort_doors⟩)
    (cc_Sort_doors : PySem.W.codeIn K cd_Sort_doors "Sort.doors" = true)
    (k_Sort_doors : PySem.W.keepIn K (.ref a_Sort_doors) = true)
    (A_same_sort : PySem.W.nsIn K mainGlobals "_same_sort" = some (some (.ref a_same_sort)))
    (l_same_sort : K.lookup a_same_sort = some ⟨oc_same_sort, od_same_sort, .func (PySem.W.fnOf "_same_sort" "_same_sort" (defArgs s_same_sort) (defBody s_same_sort) (defScope s_same_sort) .none kV_same_sort dc_same_sort pm_same_sort an_same_sort cd_same_sort ct_same_sort), sl_same_sort⟩)
    (cc_same_sort : PySem.W.codeIn K cd_same_sort "_same_sort" = true)
    (k_same_sort : PySem.W.keepIn K (.ref a_same_sort) = true)
    (A_Street_init : PySem.W.findIn K (.ref c_Street) "__init__" = some (some (.ref a_Street_init)))
    (i_Street_init : PySem.W.isFn K (.ref a_Street_init) = true)
    (l_Street_init : K.lookup a_Street_init = some ⟨oc_Street_init, od_Street_init, .func (PySem.W.fnOf "__init__" "Street.__init__" (defArgs s_Street_init) (defBody s_Street_init) (defScope s_Street_init) .none kV_Street_init dc_Street_init pm_Street_init an_Street_init cd_Street_init ct_Street_init), sl_Street_init⟩)
    (cc_Street_init : PySem.W.codeIn K cd_Street_init "Street.__init__" = true)
    (k_Street_init : PySem.W.keepIn K (.ref a_Street_init) = true)
    (A_Street_eq : PySem.W.findIn K (.ref c_Street) "__eq__" = some (some (.ref a_Street_eq)))
    (i_Street_eq : PySem.W.isFn K (.ref a_Street_eq) = true)
    (l_Street_eq : K.lookup a_Street_eq = some ⟨oc_Street_eq, od_Street_eq, .func (PySem.W.fnOf "__eq__" "Street.__eq__" (defArgs s_Street_eq) (defBody s_Street_eq) (defScope s_Street_eq) .none kV_Street_eq dc_Street_eq pm_Street_eq an_Street_eq cd_Street_eq ct_Street_eq), sl_Street_eq⟩)
    (cc_Street_eq : PySem.W.codeIn K cd_Street_eq "Street.__eq__" = true)
    (k_Street_eq : PySem.W.keepIn K (.ref a_Street_eq) = true)
    (A_Street_len : PySem.W.findIn K (.ref c_Street) "__len__" = some (some (.ref a_Street_len)))
    (i_Street_len : PySem.W.isFn K (.ref a_Street_len) = true)
    (l_Street_len : K.lookup a_Street_len = some ⟨oc_Street_len, od_Street_len, .func (PySem.W.fnOf "__len__" "Street.__len__" (defArgs s_Street_len) (defBody s_Street_len) (defScope s_Street_len) .none kV_Street_len dc_Street_len pm_Street_len an_Street_len cd_Street_len ct_Street_len), sl_Street_len⟩)
    (cc_Street_len : PySem.W.codeIn K cd_Street_len "Street.__len__" = true)
    (k_Street_len : PySem.W.keepIn K (.ref a_Street_len) = true)
    (A_Street_left : PySem.W.findIn K (.ref c_Street) "left" = some (some (.ref a_Street_left)))
    (i_Street_left : PySem.W.isFn K (.ref a_Street_left) = true)
    (l_Street_left : K.lookup a_Street_left = some ⟨oc_Street_left, od_Street_left, .func (PySem.W.fnOf "left" "Street.left" (defArgs s_Street_left) (defBody s_Street_left) (defScope s_Street_left) .none kV_Street_left dc_Street_left pm_Street_left an_Street_left cd_Street_left ct_Street_left), sl_Street_left⟩)
    (cc_Street_left : PySem.W.codeIn K cd_Street_left "Street.left" = true)
    (k_Street_left : PySem.W.keepIn K (.ref a_Street_left) = true)
    (A_Street_right : PySem.W.findIn K (.ref c_Street) "right" = some (some (.ref a_Street_right)))
    (i_Street_right : PySem.W.isFn K (.ref a_Street_right) = true)
    (l_Street_right : K.lookup a_Street_right = some ⟨oc_Street_right, od_Street_right, .func (PySem.W.fnOf "right" "Street.right" (defArgs s_Street_right) (defBody s_Street_right) (defScope s_Street_right) .none kV_Street_right dc_Street_right pm_Street_right an_Street_right cd_Street_right ct_Street_right), sl_Street_right⟩)
    (cc_Street_right : PySem.W.codeIn K cd_Street_right "Street.right" = true)
    (k_Street_right : PySem.W.keepIn K (.ref a_Street_right) = true)
    (A_Street_odd : PySem.W.findIn K (.ref c_Street) "odd" = some (some (.ref a_Street_odd)))
    (i_Street_odd : PySem.W.isFn K (.ref a_Street_odd) = true)
    (l_Street_odd : K.lookup a_Street_odd = some ⟨oc_Street_odd, od_Street_odd, .func (PySem.W.fnOf "odd" "Street.odd" (defArgs s_Street_odd) (defBody s_Street_odd) (defScope s_Street_odd) .none kV_Street_odd dc_Street_odd pm_Street_odd an_Street_odd cd_Street_odd ct_Street_odd), sl_Street_odd⟩)
    (cc_Street_odd : PySem.W.codeIn K cd_Street_odd "Street.odd" = true)
    (k_Street_odd : PySem.W.keepIn K (.ref a_Street_odd) = true)
    (A_Street_first : PySem.W.findIn K (.ref c_Street) "first" = some (some (.ref a_Street_first)))
    (i_Street_first : PySem.W.isFn K (.ref a_Street_first) = true)
    (l_Street_first : K.lookup a_Street_first = some ⟨oc_Street_first, od_Street_first, .func (PySem.W.fnOf "first" "Street.first" (defArgs s_Street_first) (defBody s_Street_first) (defScope s_Street_first) .none kV_Street_first dc_Street_first pm_Street_first an_Street_first cd_Street_first ct_Street_first), sl_Street_first⟩)
    (cc_Street_first : PySem.W.codeIn K cd_Street_first "Street.first" = true)
    (k_Street_first : PySem.W.keepIn K (.ref a_Street_first) = true)
    (A_Street_sort_at : PySem.W.findIn K (.ref c_Street) "sort_at" = some (some (.ref a_Street_sort_at)))
    (i_Street_sort_at : PySem.W.isFn K (.ref a_Street_sort_at) = true)
    (l_Street_sort_at : K.lookup a_Street_sort_at = some ⟨oc_Street_sort_at, od_Street_sort_at, .func (PySem.W.fnOf "sort_at" "Street.sort_at" (defArgs s_Street_sort_at) (defBody s_Street_sort_at) (defScope s_Street_sort_at) .none kV_Street_sort_at dc_Street_sort_at pm_Street_sort_at an_Street_sort_at cd_Street_sort_at ct_Street_sort_at), sl_Street_sort_at⟩)
    (cc_Street_sort_at : PySem.W.codeIn K cd_Street_sort_at "Street.sort_at" = true)
    (k_Street_sort_at : PySem.W.keepIn K (.ref a_Street_sort_at) = true)
    (A_places_of : PySem.W.nsIn K mainGlobals "places_of" = some (some (.ref a_places_of)))
    (l_places_of : K.lookup a_places_of = some ⟨oc_places_of, od_places_of, .func (PySem.W.fnOf "places_of" "places_of" (defArgs s_places_of) (defBody s_places_of) (defScope s_places_of) .none kV_places_of dc_places_of pm_places_of an_places_of cd_places_of ct_places_of), sl_places_of⟩)
    (cc_places_of : PySem.W.codeIn K cd_places_of "places_of" = true)
    (k_places_of : PySem.W.keepIn K (.ref a_places_of) = true)
    (A_law_pen : PySem.W.nsIn K mainGlobals "_law_pen" = some (some (.ref a_law_pen)))
    (l_law_pen : K.lookup a_law_pen = some ⟨oc_law_pen, od_law_pen, .func (PySem.W.fnOf "_law_pen" "_law_pen" (defArgs s_law_pen) (defBody s_law_pen) (defScope s_law_pen) .none kV_law_pen dc_law_pen pm_law_pen an_law_pen cd_law_pen ct_law_pen), sl_law_pen⟩)
    (cc_law_pen : PySem.W.codeIn K cd_law_pen "_law_pen" = true)
    (k_law_pen : PySem.W.keepIn K (.ref a_law_pen) = true)
    (A_law_draw : PySem.W.nsIn K mainGlobals "_law_draw" = some (some (.ref a_law_draw)))
    (l_law_draw : K.lookup a_law_draw = some ⟨oc_law_draw, od_law_draw, .func (PySem.W.fnOf "_law_draw" "_law_draw" (defArgs s_law_draw) (defBody s_law_draw) (defScope s_law_draw) .none kV_law_draw dc_law_draw pm_law_draw an_law_draw cd_law_draw ct_law_draw), sl_law_draw⟩)
    (cc_law_draw : PySem.W.codeIn K cd_law_draw "_law_draw" = true)
    (k_law_draw : PySem.W.keepIn K (.ref a_law_draw) = true)
    (A_law_pick : PySem.W.nsIn K mainGlobals "_law_pick" = some (some (.ref a_law_pick)))
    (l_law_pick : K.lookup a_law_pick = some ⟨oc_law_pick, od_law_pick, .func (PySem.W.fnOf "_law_pick" "_law_pick" (defArgs s_law_pick) (defBody s_law_pick) (defScope s_law_pick) .none kV_law_pick dc_law_pick pm_law_pick an_law_pick cd_law_pick ct_law_pick), sl_law_pick⟩)
    (cc_law_pick : PySem.W.codeIn K cd_law_pick "_law_pick" = true)
    (k_law_pick : PySem.W.keepIn K (.ref a_law_pick) = true)
    (A_law_shuffled : PySem.W.nsIn K mainGlobals "_law_shuffled" = some (some (.ref a_law_shuffled)))
    (l_law_shuffled : K.lookup a_law_shuffled = some ⟨oc_law_shuffled, od_law_shuffled, .func (PySem.W.fnOf "_law_shuffled" "_law_shuffled" (defArgs s_law_shuffled) (defBody s_law_shuffled) (defScope s_law_shuffled) .none kV_law_shuffled dc_law_shuffled pm_law_shuffled an_law_shuffled cd_law_shuffled ct_law_shuffled), sl_law_shuffled⟩)
    (cc_law_shuffled : PySem.W.codeIn K cd_law_shuffled "_law_shuffled" = true)
    (k_law_shuffled : PySem.W.keepIn K (.ref a_law_shuffled) = true)
    (A_law_names : PySem.W.nsIn K mainGlobals "_law_names" = some (some (.ref a_law_names)))
    (l_law_names : K.lookup a_law_names = some ⟨oc_law_names, od_law_names, .func (PySem.W.fnOf "_law_names" "_law_names" (defArgs s_law_names) (defBody s_law_names) (defScope s_law_names) .none kV_law_names dc_law_names pm_law_names an_law_names cd_law_names ct_law_names), sl_law_names⟩)
    (cc_law_names : PySem.W.codeIn K cd_law_names "_law_names" = true)
    (k_law_names : PySem.W.keepIn K (.ref a_law_names) = true)
    (A_law_sort : PySem.W.nsIn K mainGlobals "_law_sort" = some (some (.ref a_law_sort)))
    (l_law_sort : K.lookup a_law_sort = some ⟨oc_law_sort, od_law_sort, .func (PySem.W.fnOf "_law_sort" "_law_sort" (defArgs s_law_sort) (defBody s_law_sort) (defScope s_law_sort) .none kV_law_sort dc_law_sort pm_law_sort an_law_sort cd_law_sort ct_law_sort), sl_law_sort⟩)
    (cc_law_sort : PySem.W.codeIn K cd_law_sort "_law_sort" = true)
    (k_law_sort : PySem.W.keepIn K (.ref a_law_sort) = true)
    (A_law_price : PySem.W.nsIn K mainGlobals "_law_price" = some (some (.ref a_law_price)))
    (l_law_price : K.lookup a_law_price = some ⟨oc_law_price, od_law_price, .func (PySem.W.fnOf "_law_price" "_law_price" (defArgs s_law_price) (defBody s_law_price) (defScope s_law_price) .none kV_law_price dc_law_price pm_law_price an_law_price cd_law_price ct_law_price), sl_law_price⟩)
    (cc_law_price : PySem.W.codeIn K cd_law_price "_law_price" = true)
    (k_law_price : PySem.W.keepIn K (.ref a_law_price) = true)
    (A_law_street : PySem.W.nsIn K mainGlobals "_law_street" = some (some (.ref a_law_street)))
    (l_law_street : K.lookup a_law_street = some ⟨oc_law_street, od_law_street, .func (PySem.W.fnOf "_law_street" "_law_street" (defArgs s_law_street) (defBody s_law_street) (defScope s_law_street) .none kV_law_street dc_law_street pm_law_street an_law_street cd_law_street ct_law_street), sl_law_street⟩)
    (cc_law_street : PySem.W.codeIn K cd_law_street "_law_street" = true)
    (k_law_street : PySem.W.keepIn K (.ref a_law_street) = true)
    (A_law_made : PySem.W.nsIn K mainGlobals "_law_made" = some (some (.ref a_law_made)))
    (l_law_made : K.lookup a_law_made = some ⟨oc_law_made, od_law_made, .func (PySem.W.fnOf "_law_made" "_law_made" (defArgs s_law_made) (defBody s_law_made) (defScope s_law_made) .none kV_law_made dc_law_made pm_law_made an_law_made cd_law_made ct_law_made), sl_law_made⟩)
    (cc_law_made : PySem.W.codeIn K cd_law_made "_law_made" = true)
    (k_law_made : PySem.W.keepIn K (.ref a_law_made) = true)
    (A_law_at : PySem.W.nsIn K mainGlobals "_law_at" = some (some (.ref a_law_at)))
    (l_law_at : K.lookup a_law_at = some ⟨oc_law_at, od_law_at, .func (PySem.W.fnOf "_law_at" "_law_at" (defArgs s_law_at) (defBody s_law_at) (defScope s_law_at) .none kV_law_at dc_law_at pm_law_at an_law_at cd_law_at ct_law_at), sl_law_at⟩)
    (cc_law_at : PySem.W.codeIn K cd_law_at "_law_at" = true)
    (k_law_at : PySem.W.keepIn K (.ref a_law_at) = true)
    (A_law : PySem.W.nsIn K mainGlobals "law" = some (some (.ref a_law)))
    (l_law : K.lookup a_law = some ⟨oc_law, od_law, .func (PySem.W.fnOf "law" "law" (defArgs s_law) (defBody s_law) (defScope s_law) .none kV_law dc_law pm_law an_law cd_law ct_law), sl_law⟩)
    (cc_law : PySem.W.codeIn K cd_law "law" = true)
    (k_law : PySem.W.keepIn K (.ref a_law) = true)
    (z_str : PySem.W.nsIn K mainGlobals "str" = some none)
    (z_int : PySem.W.nsIn K mainGlobals "int" = some none)
    (z_sorted : PySem.W.nsIn K mainGlobals "sorted" = some none)
    (z_isinstance : PySem.W.nsIn K mainGlobals "isinstance" = some none)
    (z_list : PySem.W.nsIn K mainGlobals "list" = some none)
    (z_len : PySem.W.nsIn K mainGlobals "len" = some none)
    (z_range : PySem.W.nsIn K mainGlobals "range" = some none)
    (z_abs : PySem.W.nsIn K mainGlobals "abs" = some none)
    (z_min : PySem.W.nsIn K mainGlobals "min" = some none)
    (z_repr : PySem.W.nsIn K mainGlobals "repr" = some none)
    : ∃ fd : FuncData, (∀ (s : Shared) (v : Value), BindsTo s fd ⟨[v], []⟩ [("script", v)]) ∧ ∀ (l : PySem.W.OpenLaw) (base : Heap), K.In base → base.Ns mainGlobals mg → FnG l.prog w K mg base 8 fa fd ["script"] (spLaw K) := by
  have e := hfa.symm.trans (PySem.W.mg_of X G A_law)
  cases e
  have F_plain_door := fun_mk (st := s_plain_door) l_plain_door cc_plain_door k_plain_door
  have b_plain_door := F_plain_door.binds (ps := ["door"]) fun _ _ _ _ _ _ us hl => match us, hl with | [_], _ => rfl
  have F_Sort_init := fun_mk (st := s_Sort_init) l_Sort_init cc_Sort_init k_Sort_init
  have b_Sort_init := F_Sort_init.binds (ps := ["self", "rooms", "doors"]) fun _ _ _ _ _ _ us hl => match us, hl with | [_, _, _], _ => rfl
  have F_Sort_eq := fun_mk (st := s_Sort_eq) l_Sort_eq cc_Sort_eq k_Sort_eq
  have b_Sort_eq := F_Sort_eq.binds (ps := ["self", "other"]) fun _ _ _ _ _ _ us hl => match us, hl with | [_, _], _ => rfl
  have F_Sort_rooms := fun_mk (st := s_Sort_rooms) l_Sort_rooms cc_Sort_rooms k_Sort_rooms
  have b_Sort_rooms := F_Sort_rooms.binds (ps := ["self"]) fun _ _ _ _ _ _ us hl => match us, hl with | [_], _ => rfl
  have F_Sort_doors := fun_mk (st := s_Sort_doors) l_Sort_doors cc_Sort_doors k_Sort_doors
  have b_Sort_doors := F_Sort_doors.binds (ps := ["self"]) fun _ _ _ _ _ _ us hl => match us, hl with | [_], _ => rfl
  have F_same_sort := fun_mk (st := s_same_sort) l_same_sort cc_same_sort k_same_sort
  have b_same_sort := F_same_sort.binds (ps := ["sort"]) fun _ _ _ _ _ _ us hl => match us, hl with | [_], _ => rfl
  have F_Street_init := fun_mk (st := s_Street_init) l_Street_init cc_Street_init k_Street_init
  have b_Street_init := F_Street_init.binds (ps := ["self", "left", "first", "odd", "right"]) fun _ _ _ _ _ _ us hl => match us, hl with | [_, _, _, _, _], _ => rfl
  have F_Street_eq := fun_mk (st := s_Street_eq) l_Street_eq cc_Street_eq k_Street_eq
  have b_Street_eq := F_Street_eq.binds (ps := ["self", "other"]) fun _ _ _ _ _ _ us hl => match us, hl with | [_, _], _ => rfl
  have F_Street_len := fun_mk (st := s_Street_len) l_Street_len cc_Street_len k_Street_len
  have b_Street_len := F_Street_len.binds (ps := ["self"]) fun _ _ _ _ _ _ us hl => match us, hl with | [_], _ => rfl
  have F_Street_left := fun_mk (st := s_Street_left) l_Street_left cc_Street_left k_Street_left
  have b_Street_left := F_Street_left.binds (ps := ["self"]) fun _ _ _ _ _ _ us hl => match us, hl with | [_], _ => rfl
  have F_Street_right := fun_mk (st := s_Street_right) l_Street_right cc_Street_right k_Street_right
  have b_Street_right := F_Street_right.binds (ps := ["self"]) fun _ _ _ _ _ _ us hl => match us, hl with | [_], _ => rfl
  have F_Street_odd := fun_mk (st := s_Street_odd) l_Street_odd cc_Street_odd k_Street_odd
  have b_Street_odd := F_Street_odd.binds (ps := ["self"]) fun _ _ _ _ _ _ us hl => match us, hl with | [_], _ => rfl
  have F_Street_first := fun_mk (st := s_Street_first) l_Street_first cc_Street_first k_Street_first
  have b_Street_first := F_Street_first.binds (ps := ["self"]) fun _ _ _ _ _ _ us hl => match us, hl with | [_], _ => rfl
  have F_Street_sort_at := fun_mk (st := s_Street_sort_at) l_Street_sort_at cc_Street_sort_at k_Street_sort_at
  have b_Street_sort_at := F_Street_sort_at.binds (ps := ["self", "house"]) fun _ _ _ _ _ _ us hl => match us, hl with | [_, _], _ => rfl
  have F_places_of := fun_mk (st := s_places_of) l_places_of cc_places_of k_places_of
  have b_places_of := F_places_of.binds (ps := ["street"]) fun _ _ _ _ _ _ us hl => match us, hl with | [_], _ => rfl
  have F_law_pen := fun_mk (st := s_law_pen) l_law_pen cc_law_pen k_law_pen
  have b_law_pen := F_law_pen.binds (ps := ["script"]) fun _ _ _ _ _ _ us hl => match us, hl with | [_], _ => rfl
  have F_law_draw := fun_mk (st := s_law_draw) l_law_draw cc_law_draw k_law_draw
  have b_law_draw := F_law_draw.binds (ps := ["pen", "many"]) fun _ _ _ _ _ _ us hl => match us, hl with | [_, _], _ => rfl
  have F_law_pick := fun_mk (st := s_law_pick) l_law_pick cc_law_pick k_law_pick
  have b_law_pick := F_law_pick.binds (ps := ["pen", "some"]) fun _ _ _ _ _ _ us hl => match us, hl with | [_, _], _ => rfl
  have F_law_shuffled := fun_mk (st := s_law_shuffled) l_law_shuffled cc_law_shuffled k_law_shuffled
  have b_law_shuffled := F_law_shuffled.binds (ps := ["pen", "some"]) fun _ _ _ _ _ _ us hl => match us, hl with | [_, _], _ => rfl
  have F_law_names := fun_mk (st := s_law_names) l_law_names cc_law_names k_law_names
  have b_law_names := F_law_names.binds (ps := ["pen", "many"]) fun _ _ _ _ _ _ us hl => match us, hl with | [_, _], _ => rfl
  have F_law_sort := fun_mk (st := s_law_sort) l_law_sort cc_law_sort k_law_sort
  have b_law_sort := F_law_sort.binds (ps := ["pen", "rooms", "goals", "doors"]) fun _ _ _ _ _ _ us hl => match us, hl with | [_, _, _, _], _ => rfl
  have F_law_price := fun_mk (st := s_law_price) l_law_price cc_law_price k_law_price
  have b_law_price := F_law_price.binds (ps := ["pen"]) fun _ _ _ _ _ _ us hl => match us, hl with | [_], _ => rfl
  have F_law_street := fun_mk (st := s_law_street) l_law_street cc_law_street k_law_street
  have b_law_street := F_law_street.binds (ps := ["pen", "rooms", "doors", "odd"]) fun _ _ _ _ _ _ us hl => match us, hl with | [_, _, _, _], _ => rfl
  have F_law_made := fun_mk (st := s_law_made) l_law_made cc_law_made k_law_made
  have b_law_made := F_law_made.binds (ps := ["street"]) fun _ _ _ _ _ _ us hl => match us, hl with | [_], _ => rfl
  have F_law_at := fun_mk (st := s_law_at) l_law_at cc_law_at k_law_at
  have b_law_at := F_law_at.binds (ps := ["street", "house"]) fun _ _ _ _ _ _ us hl => match us, hl with | [_, _], _ => rfl
  have F_law := fun_mk (st := s_law) l_law cc_law k_law
  have b_law := F_law.binds (ps := ["script"]) fun _ _ _ _ _ _ us hl => match us, hl with | [_], _ => rfl
  have T : ∃ T : Tx K mg, T.a_law = fa ∧ T.fd_law = PySem.W.fnOf "law" "law" (defArgs s_law) (defBody s_law) (defScope s_law) .none kV_law dc_law pm_law an_law cd_law ct_law := ⟨{
      c_Sort := c_Sort,
      cl_Sort := ⟨pg_Sort, hd_Sort, po_Sort, sa_Sort⟩,
      mg_Sort := PySem.W.mg_of X G A_Sort,
      na_Sort_rooms := na_Sort_rooms,
      na_Sort_doors := na_Sort_doors,
      oe_Sort := ⟨A_Sort_eq, i_Sort_eq, ne_Sort, mro_Sort⟩,
      ic_Sort := ⟨icc_Sort, icg, ict, mro_Sort⟩,
      c_Street := c_Street,
      cl_Street := ⟨pg_Street, hd_Street, po_Street, sa_Street⟩,
      mg_Street := PySem.W.mg_of X G A_Street,
      na_Street_left := na_Street_left,
      na_Street_first := na_Street_first,
      na_Street_odd := na_Street_odd,
      na_Street_right := na_Street_right,
      oe_Street := ⟨A_Street_eq, i_Street_eq, ne_Street, mro_Street⟩,
      ic_Street := ⟨icc_Street, icg, ict, mro_Street⟩,
      a_plain_door := a_plain_door,
      fd_plain_door := _,
      F_plain_door := F_plain_door,
      b_plain_door := b_plain_door,
      k_plain_door := k_plain_door,
      g_plain_door := PySem.W.mg_of X G A_plain_door,
      a_Sort_init := a_Sort_init,
      fd_Sort_init := _,
      F_Sort_init := F_Sort_init,
      b_Sort_init := b_Sort_init,
      k_Sort_init := k_Sort_init,
      m_Sort_init := ⟨A_Sort_init, i_Sort_init, k_Sort_init⟩,
      M_Sort := ⟨mk_Sort, A_Sort_init, i_Sort_init, kc_Sort⟩,
      a_Sort_eq := a_Sort_eq,
      fd_Sort_eq := _,
      F_Sort_eq := F_Sort_eq,
      b_Sort_eq := b_Sort_eq,
      k_Sort_eq := k_Sort_eq,
      m_Sort_eq := ⟨A_Sort_eq, i_Sort_eq, k_Sort_eq⟩,
      a_Sort_rooms := a_Sort_rooms,
      fd_Sort_rooms := _,
      F_Sort_rooms := F_Sort_rooms,
      b_Sort_rooms := b_Sort_rooms,
      k_Sort_rooms := k_Sort_rooms,
      m_Sort_rooms := ⟨A_Sort_rooms, i_Sort_rooms, k_Sort_rooms⟩,
      a_Sort_doors := a_Sort_doors,
      fd_Sort_doors := _,
      F_Sort_doors := F_Sort_doors,
      b_Sort_doors := b_Sort_doors,
      k_Sort_doors := k_Sort_doors,
      m_Sort_doors := ⟨A_Sort_doors, i_Sort_doors, k_Sort_doors⟩,
      a_same_sort := a_same_sort,
      fd_same_sort := _,
      F_same_sort := F_same_sort,
      b_same_sort := b_same_sort,
      k_same_sort := k_same_sort,
      g_same_sort := PySem.W.mg_of X G A_same_sort,
      a_Street_init := a_Street_init,
      fd_Street_init := _,
      F_Street_init := F_Street_init,
      b_Street_init := b_Street_init,
      k_Street_init := k_Street_init,
      m_Street_init := ⟨A_Street_init, i_Street_init, k_Street_init⟩,
      M_Street := ⟨mk_Street, A_Street_init, i_Street_init, kc_Street⟩,
      a_Street_eq := a_Street_eq,
      fd_Street_eq := _,
      F_Street_eq := F_Street_eq,
      b_Street_eq := b_Street_eq,
      k_Street_eq := k_Street_eq,
      m_Street_eq := ⟨A_Street_eq, i_Street_eq, k_Street_eq⟩,
      a_Street_len := a_Street_len,
      fd_Street_len := _,
      F_Street_len := F_Street_len,
      b_Street_len := b_Street_len,
      k_Street_len := k_Street_len,
      m_Street_len := ⟨A_Street_len, i_Street_len, k_Street_len⟩,
      a_Street_left := a_Street_left,
      fd_Street_left := _,
      F_Street_left := F_Street_left,
      b_Street_left := b_Street_left,
      k_Street_left := k_Street_left,
      m_Street_left := ⟨A_Street_left, i_Street_left, k_Street_left⟩,
      a_Street_right := a_Street_right,
      fd_Street_right := _,
      F_Street_right := F_Street_right,
      b_Street_right := b_Street_right,
      k_Street_right := k_Street_right,
      m_Street_right := ⟨A_Street_right, i_Street_right, k_Street_right⟩,
      a_Street_odd := a_Street_odd,
      fd_Street_odd := _,
      F_Street_odd := F_Street_odd,
      b_Street_odd := b_Street_odd,
      k_Street_odd := k_Street_odd,
      m_Street_odd := ⟨A_Street_odd, i_Street_odd, k_Street_odd⟩,
      a_Street_first := a_Street_first,
      fd_Street_first := _,
      F_Street_first := F_Street_first,
      b_Street_first := b_Street_first,
      k_Street_first := k_Street_first,
      m_Street_first := ⟨A_Street_first, i_Street_first, k_Street_first⟩,
      a_Street_sort_at := a_Street_sort_at,
      fd_Street_sort_at := _,
      F_Street_sort_at := F_Street_sort_at,
      b_Street_sort_at := b_Street_sort_at,
      k_Street_sort_at := k_Street_sort_at,
      m_Street_sort_at := ⟨A_Street_sort_at, i_Street_sort_at, k_Street_sort_at⟩,
      a_places_of := a_places_of,
      fd_places_of := _,
      F_places_of := F_places_of,
      b_places_of := b_places_of,
      k_places_of := k_places_of,
      g_places_of := PySem.W.mg_of X G A_places_of,
      a_law_pen := a_law_pen,
      fd_law_pen := _,
      F_law_pen := F_law_pen,
      b_law_pen := b_law_pen,
      k_law_pen := k_law_pen,
      g_law_pen := PySem.W.mg_of X G A_law_pen,
      a_law_draw := a_law_draw,
      fd_law_draw := _,
      F_law_draw := F_law_draw,
      b_law_draw := b_law_draw,
      k_law_draw := k_law_draw,
      g_law_draw := PySem.W.mg_of X G A_law_draw,
      a_law_pick := a_law_pick,
      fd_law_pick := _,
      F_law_pick := F_law_pick,
      b_law_pick := b_law_pick,
      k_law_pick := k_law_pick,
      g_law_pick := PySem.W.mg_of X G A_law_pick,
      a_law_shuffled := a_law_shuffled,
      fd_law_shuffled := _,
      F_law_shuffled := F_law_shuffled,
      b_law_shuffled := b_law_shuffled,
      k_law_shuffled := k_law_shuffled,
      g_law_shuffled := PySem.W.mg_of X G A_law_shuffled,
      a_law_names := a_law_names,
      fd_law_names := _,
      F_law_names := F_law_names,
      b_law_names := b_law_names,
      k_law_names := k_law_names,
      g_law_names := PySem.W.mg_of X G A_law_names,
      a_law_sort := a_law_sort,
      fd_law_sort := _,
      F_law_sort := F_law_sort,
      b_law_sort := b_law_sort,
      k_law_sort := k_law_sort,
      g_law_sort := PySem.W.mg_of X G A_law_sort,
      a_law_price := a_law_price,
      fd_law_price := _,
      F_law_price := F_law_price,
      b_law_price := b_law_price,
      k_law_price := k_law_price,
      g_law_price := PySem.W.mg_of X G A_law_price,
      a_law_street := a_law_street,
      fd_law_street := _,
      F_law_street := F_law_street,
      b_law_street := b_law_street,
      k_law_street := k_law_street,
      g_law_street := PySem.W.mg_of X G A_law_street,
      a_law_made := a_law_made,
      fd_law_made := _,
      F_law_made := F_law_made,
      b_law_made := b_law_made,
      k_law_made := k_law_made,
      g_law_made := PySem.W.mg_of X G A_law_made,
      a_law_at := a_law_at,
      fd_law_at := _,
      F_law_at := F_law_at,
      b_law_at := b_law_at,
      k_law_at := k_law_at,
      g_law_at := PySem.W.mg_of X G A_law_at,
      a_law := fa,
      fd_law := _,
      F_law := F_law,
      b_law := b_law,
      k_law := k_law,
      g_law := PySem.W.mg_of X G A_law,
      z_str := PySem.W.mg_none_of X G z_str,
      z_int := PySem.W.mg_none_of X G z_int,
      z_sorted := PySem.W.mg_none_of X G z_sorted,
      z_isinstance := PySem.W.mg_none_of X G z_isinstance,
      z_list := PySem.W.mg_none_of X G z_list,
      z_len := PySem.W.mg_none_of X G z_len,
      z_range := PySem.W.mg_none_of X G z_range,
      z_abs := PySem.W.mg_none_of X G z_abs,
      z_min := PySem.W.mg_none_of X G z_min,
      z_repr := PySem.W.mg_none_of X G z_repr }, rfl, rfl⟩
  obtain ⟨T, e1, e2⟩ := T
  refine ⟨PySem.W.fnOf "law" "law" (defArgs s_law) (defBody s_law) (defScope s_law) .none kV_law dc_law pm_law an_law cd_law ct_law, fun s v => .of_eq rfl, fun l base _ _ => ?_⟩
  have q := ok_law (P := l.prog) (w := w) (base := base) T
  rw [e1, e2] at q
  exact q
theorem walk {l : PySem.W.OpenLaw} {q : Program} {loose : List Str} {XP : (Str → Option Value) → Heap → Prop} {YP : World → Heap → Prop} {d : DefRec} {K : Params → PySem.W.Frag} (hn : l.most = some 63) (hdf : d.params.defaults = [])
    (hY : ∀ (w : World) (h : Heap), YP w h → (K w.params).In h)
    (F : ∀ (w : World) (mg : Str → Option Value) (fa : Addr) (h : Heap), (K w.params).In h → h.Ns mainGlobals mg → mg d.name = some (.ref fa) →
      ∃ fd : FuncData, (∀ (s : Shared) (u : Value), BindsTo s fd ⟨[u], []⟩ [("script", u)]) ∧ ∀ base : Heap, (K w.params).In base → base.Ns mainGlobals mg → FnG l.prog w (K w.params) mg base 8 fa fd ["script"] (spLaw (K w.params))) :
    PySem.W.WalkO q loose XP YP l.row.toRowW d [] (fun f vs => PySem.call f vs) :=
  LH.walkG (n := 63) (k := 8) (x := "script") (sp := fun K => spLaw K) hn (by decide) hdf ⟨rfl, by decide, by decide⟩ hY F (fun K H a ns hl hS => ⟨a, ns, rfl, hS, hl, fun _ => rfl⟩)
end LH
open PySem PySem.W PyProof.Rows in
set_option maxRecDepth 100000 in
set_option maxHeartbeats 0 in
theorem PySem.Challenge.cw_likehouses_k04_whole_sorts_of_all_houses_holds : PySem.Challenge.rw_likehouses_k04_whole_sorts_of_all_houses.Holds := by
  w_on; o_law; k_head; (case hw => w_witness2)
  k_fill
  refine LH.walk (l := PySem.Challenge.rw_likehouses_k04_whole_sorts_of_all_houses) rfl rfl (fun w h Y => PySem.W.kIn_of Y) ?F
  case F =>
    intro w mg fa h KX G hmg
    refine' Exists.elim (LH.all_mk (w := w) KX G hmg ?A_Sort ?pg_Sort ?hd_Sort ?po_Sort ?sa_Sort ?mk_Sort ?kc_Sort ?na_Sort_rooms ?na_Sort_doors ?ne_Sort ?mro_Sort ?icc_Sort ?A_Street ?pg_Street ?hd_Street ?po_Street ?sa_Street ?mk_Street ?kc_Street ?na_Street_left ?na_Street_first ?na_Street_odd ?na_Street_right ?ne_Street ?mro_Street ?icc_Street ?icg ?ict ?A_plain_door ?l_plain_door ?cc_plain_door ?k_plain_door ?A_Sort_init ?i_Sort_init ?l_Sort_init ?cc_Sort_init ?k_Sort_init ?A_Sort_eq ?i_Sort_eq ?l_Sort_eq ?cc_Sort_eq ?k_Sort_eq ?A_Sort_rooms ?i_Sort_rooms ?l_Sort_rooms ?cc_Sort_rooms ?k_Sort_rooms ?A_Sort_doors ?i_Sort_doors ?l_Sort_doors ?cc_Sort_doors ?k_Sort_doors ?A_same_sort ?l_same_sort ?cc_same_sort ?k_same_sort ?A_Street_init ?i_Street_init ?l_Street_init ?cc_Street_init ?k_Street_init ?A_Street_eq ?i_Street_eq ?l_Street_eq ?cc_Street_eq ?k_Street_eq ?A_Street_len ?i_Street_len ?l_Street_len ?cc_Street_len ?k_Street_len ?A_Street_left ?i_Street_left ?l_Street_left ?cc_Street_left ?k_Street_left ?A_Street_right ?i_Street_right ?l_Street_right ?cc_Street_right ?k_Street_right ?A_Street_odd ?i_Street_odd ?l_Street_odd ?cc_Street_odd ?k_Street_odd ?A_Street_first ?i_Street_first ?l_Street_first ?cc_Street_first ?k_Street_first ?A_Street_sort_at ?i_Street_sort_at ?l_Street_sort_at ?cc_Street_sort_at ?k_Street_sort_at ?A_places_of ?l_places_of ?cc_places_of ?k_places_of ?A_law_pen ?l_law_pen ?cc_law_pen ?k_law_pen ?A_law_draw ?l_law_draw ?cc_law_draw ?k_law_draw ?A_law_pick ?l_law_pick ?cc_law_pick ?k_law_pick ?A_law_shuffled ?l_law_shuffled ?cc_law_shuffled ?k_law_shuffled ?A_law_names ?l_law_names ?cc_law_names ?k_law_names ?A_law_sort ?l_law_sort ?cc_law_sort ?k_law_sort ?A_law_price ?l_law_price ?cc_law_price ?k_law_price ?A_law_street ?l_law_street ?cc_law_street ?k_law_street ?A_law_made ?l_law_made ?cc_law_made ?k_law_made ?A_law_at ?l_law_at ?cc_law_at ?k_law_at ?A_law ?l_law ?cc_law ?k_law ?z_str ?z_int ?z_sorted ?z_isinstance ?z_list ?z_len ?z_range ?z_abs ?z_min ?z_repr) ?fin
    (case A_Sort => k_is)
    (case pg_Sort => k_is)
    (case hd_Sort => k_is)
    (case po_Sort => k_is)
    (case sa_Sort => k_is)
    (case mk_Sort => k_is)
    (case kc_Sort => k_is)
    (case na_Sort_rooms => k_is)
    (case na_Sort_doors => k_is)
    (case ne_Sort => k_is)
    (case mro_Sort => k_is)
    (case icc_Sort => k_is)
    (case A_Street => k_is)
    (case pg_Street => k_is)
    (case hd_Street => k_is)
    (case po_Street => k_is)
    (case sa_Street => k_is)
    (case mk_Street => k_is)
    (case kc_Street => k_is)
    (case na_Street_left => k_is)
    (case na_Street_first => k_is)
    (case na_Street_odd => k_is)
    (case na_Street_right => k_is)
    (case ne_Street => k_is)
    (case mro_Street => k_is)
    (case icc_Street => k_is)
    (case icg => k_is)
    (case ict => k_is)
    (case A_plain_door => k_is)
    (case l_plain_door => k_is)
    (case cc_plain_door => k_is)
    (case k_plain_door => k_is)
    (case A_Sort_init => k_is)
    (case i_Sort_init => k_is)
    (case l_Sort_init => k_is)
    (case cc_Sort_init => k_is)
    (case k_Sort_init => k_is)
    (case A_Sort_eq => k_is)
    (case i_Sort_eq => k_is)
    (case l_Sort_eq => k_is)
    (case cc_Sort_eq => k_is)
    (case k_Sort_eq => k_is)
    (case A_Sort_rooms => k_is)
    (case i_Sort_rooms => k_is)
    (case l_Sort_rooms => k_is)
    (case cc_Sort_rooms => k_is)
    (case k_Sort_rooms => k_is)
    (case A_Sort_doors => k_is)
    (case i_Sort_doors => k_is)
    (case l_Sort_doors => k_is)
    (case cc_Sort_doors => k_is)
    (case k_Sort_doors => k_is)
    (case A_same_sort => k_is)
    (case l_same_sort => k_is)
    (case cc_same_sort => k_is)
    (case k_same_sort => k_is)
    (case A_Street_init => k_is)
    (case i_Street_init => k_is)
    (case l_Street_init => k_is)
    (case cc_Street_init => k_is)
    (case k_Street_init => k_is)
    (case A_Street_eq => k_is)
    (case i_Street_eq => k_is)
    (case l_Street_eq => k_is)
    (case cc_Street_eq => k_is)
    (case k_Street_eq => k_is)
    (case A_Street_len => k_is)
    (case i_Street_len => k_is)
    (case l_Street_len => k_is)
    (case cc_Street_len => k_is)
    (case k_Street_len => k_is)
    (case A_Street_left => k_is)
    (case i_Street_left => k_is)
    (case l_Street_left => k_is)
    (case cc_Street_left => k_is)
    (case k_Street_left => k_is)
    (case A_Street_right => k_is)
    (case i_Street_right => k_is)
    (case l_Street_right => k_is)
    (case cc_Street_right => k_is)
    (case k_Street_right => k_is)
    (case A_Street_odd => k_is)
    (case i_Street_odd => k_is)
    (case l_Street_odd => k_is)
    (case cc_Street_odd => k_is)
    (case k_Street_odd => k_is)
    (case A_Street_first => k_is)
    (case i_Street_first => k_is)
    (case l_Street_first => k_is)
    (case cc_Street_first => k_is)
    (case k_Street_first => k_is)
    (case A_Street_sort_at => k_is)
    (case i_Street_sort_at => k_is)
    (case l_Street_sort_at => k_is)
    (case cc_Street_sort_at => k_is)
    (case k_Street_sort_at => k_is)
    (case A_places_of => k_is)
    (case l_places_of => k_is)
    (case cc_places_of => k_is)
    (case k_places_of => k_is)
    (case A_law_pen => k_is)
    (case l_law_pen => k_is)
    (case cc_law_pen => k_is)
    (case k_law_pen => k_is)
    (case A_law_draw => k_is)
    (case l_law_draw => k_is)
    (case cc_law_draw => k_is)
    (case k_law_draw => k_is)
    (case A_law_pick => k_is)
    (case l_law_pick => k_is)
    (case cc_law_pick => k_is)
    (case k_law_pick => k_is)
    (case A_law_shuffled => k_is)
    (case l_law_shuffled => k_is)
    (case cc_law_shuffled => k_is)
    (case k_law_shuffled => k_is)
    (case A_law_names => k_is)
    (case l_law_names => k_is)
    (case cc_law_names => k_is)
    (case k_law_names => k_is)
    (case A_law_sort => k_is)
    (case l_law_sort => k_is)
    (case cc_law_sort => k_is)
    (case k_law_sort => k_is)
    (case A_law_price => k_is)
    (case l_law_price => k_is)
    (case cc_law_price => k_is)
    (case k_law_price => k_is)
    (case A_law_street => k_is)
    (case l_law_street => k_is)
    (case cc_law_street => k_is)
    (case k_law_street => k_is)
    (case A_law_made => k_is)
    (case l_law_made => k_is)
    (case cc_law_made => k_is)
    (case k_law_made => k_is)
    (case A_law_at => k_is)
    (case l_law_at => k_is)
    (case cc_law_at => k_is)
    (case k_law_at => k_is)
    (case A_law => k_is)
    (case l_law => k_is)
    (case cc_law => k_is)
    (case k_law => k_is)
    (case z_str => k_is)
    (case z_int => k_is)
    (case z_sorted => k_is)
    (case z_isinstance => k_is)
    (case z_list => k_is)
    (case z_len => k_is)
    (case z_range => k_is)
    (case z_abs => k_is)
    (case z_min => k_is)
    (case z_repr => k_is)
    (case fin => exact fun fd z => ⟨fd, z.1, fun base h1 h2 => z.2 _ base h1 h2⟩)
end
