/-
  Nets that are made from numbers, as plain data; they may be.
  Conditions: none.
-/
import Derived.Test.YtoicmoodhblflaaNetMath
namespace Go.Proofs.Ytoicmoodhblflaa
open Go.RowKit
set_option linter.unusedVariables false

/-- a transition, by numbers -/
structure Ac where
  d : Nat
  p : Nat
  i : Nat
  j : Nat
  n : Nat
  o : Nat
  q : Nat

def Ac.zero : Ac := ⟨0, 0, 0, 0, 0, 0, 0⟩
/-- are its numbers bytes? -/
def Ac.ok (x : Ac) : Prop := x.d < 256 ∧ x.p < 256 ∧ x.i < 256 ∧ x.j < 256 ∧ x.n < 256 ∧ x.o < 256 ∧ x.q < 256

/-- one more arc, if its place isn't there -/
def putL (l : List (Int × Int)) (p n : Int) : List (Int × Int) := if hasP l p = true then l else l ++ [(p, n)]

def nameP (k : Nat) : ByteArray := { data := #[112, UInt8.ofNat (97 + k)] }
def nameT (k : Nat) : ByteArray := { data := #[116, UInt8.ofNat (48 + k), 46, 120] }

def inn1 (m : Nat) (x : Ac) : List (Int × Int) := putL [] ((x.i % m : Nat) : Int) ((1 + x.i / 64 % 2 : Nat) : Int)
def innOf (m : Nat) (x : Ac) : List (Int × Int) := if x.j % 3 = 0 then putL (inn1 m x) ((x.j / 3 % m : Nat) : Int) 1 else inn1 m x
def ntOf (m : Nat) (x : Ac) : List (Int × Int) := if x.n % 4 = 0 then putL [] ((x.n / 4 % m : Nat) : Int) ((1 + x.n / 64 : Nat) : Int) else []
def out1 (m : Nat) (x : Ac) : List (Int × Int) := if 0 < x.o % 5 then putL [] ((x.o / 5 % m : Nat) : Int) ((1 + x.o / 128 : Nat) : Int) else []
def outOf (m : Nat) (x : Ac) : List (Int × Int) := if 0 < x.q % 3 then putL (out1 m x) ((x.q / 3 % m : Nat) : Int) 1 else out1 m x
def delayOf (x : Ac) : Nat := if x.d % 5 = 0 ∧ x.d < 128 then 1 else x.d % 5

def mkT (m k : Nat) (x : Ac) : Tr := ⟨nameT k, (delayOf x : Int), (x.p % 3 : Nat), innOf m x, ntOf m x, outOf m x⟩
def mkP (ts : List Nat) (k : Nat) : Pl := ⟨nameP k, ((ts.getD k 0 % 5 : Nat) : Int)⟩

def cntP (ts : List Nat) : Nat := 1 + ts.length % 7
def cntT (acs : List Ac) : Nat := min acs.length 9
def plsOf (ts : List Nat) (k : Nat) : List Pl := (List.range k).map (mkP ts)
def trsOf (m : Nat) (acs : List Ac) (k : Nat) : List Tr := (List.range k).map fun i => mkT m i (acs.getD i Ac.zero)
/-- the net that is made of numbers -/
def makeN (ts : List Nat) (acs : List Ac) : Nt := ⟨plsOf ts (cntP ts), trsOf (cntP ts) acs (cntT acs)⟩

theorem mkT_int (m k : Nat) (x : Ac) (nm : ByteArray) (h : nm = nameT k) : mkT m k x = ⟨nm, ((delayOf x : Nat) : Int), (x.p : Int) % 3, innOf m x, ntOf m x, outOf m x⟩ := by subst h; rfl
theorem delayOf_yes (x : Ac) (h1 : x.d % 5 = 0) (h2 : x.d < 128) : ((delayOf x : Nat) : Int) = 1 := by unfold delayOf; rw [if_pos ⟨h1, h2⟩]; rfl
theorem delayOf_no (x : Ac) (h : ¬ (x.d % 5 = 0 ∧ x.d < 128)) : ((delayOf x : Nat) : Int) = (x.d : Int) % 5 := by unfold delayOf; rw [if_neg h]; rfl
theorem plsOf_succ (ts : List Nat) (k : Nat) : plsOf ts (k + 1) = plsOf ts k ++ [mkP ts k] := by simp [plsOf, List.range_succ]
theorem trsOf_succ (m : Nat) (acs : List Ac) (k : Nat) : trsOf m acs (k + 1) = trsOf m acs k ++ [mkT m k (acs.getD k Ac.zero)] := by simp [trsOf, List.range_succ]
theorem plsOf_len (ts : List Nat) (k : Nat) : (plsOf ts k).length = k := by simp [plsOf]
theorem trsOf_len (m : Nat) (acs : List Ac) (k : Nat) : (trsOf m acs k).length = k := by simp [trsOf]
theorem cntP_bd (ts : List Nat) : 1 ≤ cntP ts ∧ cntP ts ≤ 7 := by unfold cntP; omega
theorem cntT_bd (acs : List Ac) : cntT acs ≤ 9 := by unfold cntT; omega

theorem putL_nil (p n : Int) : putL [] p n = [(p, n)] := rfl
theorem putL_one (p n q m : Int) : putL [(p, n)] q m = if p = q then [(p, n)] else [(p, n), (q, m)] := by
  unfold putL hasP
  by_cases h : p = q
  · simp [h]
  · simp [h]

/-- the lists that are made: none, one, or two arcs of unlike places -/
def Fine (m : Nat) (l : List (Int × Int)) : Prop :=
  l = [] ∨ (∃ p n : Int, l = [(p, n)] ∧ 0 ≤ p ∧ p < m ∧ 1 ≤ n ∧ n ≤ 1000) ∨ (∃ p n q k : Int, l = [(p, n), (q, k)] ∧ p ≠ q ∧ 0 ≤ p ∧ p < m ∧ 1 ≤ n ∧ n ≤ 1000 ∧ 0 ≤ q ∧ q < m ∧ 1 ≤ k ∧ k ≤ 1000)

theorem Fine.len {m : Nat} {l : List (Int × Int)} (h : Fine m l) : l.length ≤ 2 := by
  rcases h with rfl | ⟨p, n, rfl, _⟩ | ⟨p, n, q, k, rfl, _⟩ <;> simp

theorem Fine.err {m : Nat} {l : List (Int × Int)} (h : Fine m l) : arcsErr (m : Int) [] l = 0 := by
  rcases h with rfl | ⟨p, n, rfl, h1, h2, h3, h4⟩ | ⟨p, n, q, k, rfl, h0, h1, h2, h3, h4, h5, h6, h7, h8⟩
  · rfl
  · rw [arcsErr, if_neg (by simp [numB]; omega), if_neg (by simp [inP]; omega), if_neg (by simp [hasP])]; rfl
  · rw [arcsErr, if_neg (by simp [numB]; omega), if_neg (by simp [inP]; omega), if_neg (by simp [hasP]), arcsErr, if_neg (by simp [numB]; omega), if_neg (by simp [inP]; omega), if_neg (by simp [hasP, h0])]; rfl

theorem fine_one {m : Nat} (hm : 1 ≤ m) (a n : Nat) (h1 : 1 ≤ n) (h2 : n ≤ 1000) : Fine m (putL [] ((a % m : Nat) : Int) (n : Int)) :=
  .inr (.inl ⟨_, _, rfl, by omega, by have := Nat.mod_lt a hm; omega, by omega, by omega⟩)
theorem fine_two {m : Nat} (hm : 1 ≤ m) {l : List (Int × Int)} (hl : Fine m l) (hl1 : l.length ≤ 1) (a : Nat) : Fine m (putL l ((a % m : Nat) : Int) 1) := by
  have ha : ((a % m : Nat) : Int) < m := by have := Nat.mod_lt a hm; omega
  rcases hl with rfl | ⟨p, n, rfl, h1, h2, h3, h4⟩ | ⟨p, n, q, k, rfl, _⟩
  · exact .inr (.inl ⟨_, _, rfl, by omega, ha, by omega, by omega⟩)
  · rw [putL_one]
    split
    · exact .inr (.inl ⟨_, _, rfl, h1, h2, h3, h4⟩)
    · rename_i hne
      exact .inr (.inr ⟨_, _, _, _, rfl, hne, h1, h2, h3, h4, by omega, ha, by omega, by omega⟩)
  · simp at hl1

theorem inn1_int (m : Nat) (x : Ac) : inn1 m x = putL [] ((x.i : Int) % (m : Int)) (1 + (x.i : Int) / 64 % 2) := rfl
theorem innOf_yes (m : Nat) (x : Ac) (h : x.j % 3 = 0) : innOf m x = putL (inn1 m x) ((x.j : Int) / 3 % (m : Int)) 1 := by unfold innOf; rw [if_pos h]; rfl
theorem innOf_no (m : Nat) (x : Ac) (h : ¬ x.j % 3 = 0) : innOf m x = inn1 m x := by unfold innOf; rw [if_neg h]
theorem ntOf_yes (m : Nat) (x : Ac) (h : x.n % 4 = 0) : ntOf m x = putL [] ((x.n : Int) / 4 % (m : Int)) (1 + (x.n : Int) / 64) := by unfold ntOf; rw [if_pos h]; rfl
theorem ntOf_no (m : Nat) (x : Ac) (h : ¬ x.n % 4 = 0) : ntOf m x = [] := by unfold ntOf; rw [if_neg h]
theorem out1_yes (m : Nat) (x : Ac) (h : 0 < x.o % 5) : out1 m x = putL [] ((x.o : Int) / 5 % (m : Int)) (1 + (x.o : Int) / 128) := by unfold out1; rw [if_pos h]; rfl
theorem out1_no (m : Nat) (x : Ac) (h : ¬ 0 < x.o % 5) : out1 m x = [] := by unfold out1; rw [if_neg h]
theorem outOf_yes (m : Nat) (x : Ac) (h : 0 < x.q % 3) : outOf m x = putL (out1 m x) ((x.q : Int) / 3 % (m : Int)) 1 := by unfold outOf; rw [if_pos h]; rfl
theorem outOf_no (m : Nat) (x : Ac) (h : ¬ 0 < x.q % 3) : outOf m x = out1 m x := by unfold outOf; rw [if_neg h]
theorem inn1_len (m : Nat) (x : Ac) : (inn1 m x).length = 1 := rfl
theorem out1_len (m : Nat) (x : Ac) : (out1 m x).length ≤ 1 := by unfold out1; split <;> simp [putL_nil]
theorem inn1_fine {m : Nat} (hm : 1 ≤ m) (x : Ac) : Fine m (inn1 m x) := fine_one hm _ _ (by omega) (by omega)
theorem innOf_fine {m : Nat} (hm : 1 ≤ m) (x : Ac) : Fine m (innOf m x) := by
  unfold innOf; split
  · exact fine_two hm (inn1_fine hm x) (by rw [inn1_len]; omega) _
  · exact inn1_fine hm x
theorem innOf_pos (m : Nat) (x : Ac) : 1 ≤ (innOf m x).length := by
  unfold innOf inn1; rw [putL_nil]; split
  · rw [putL_one]; split <;> simp
  · simp
theorem ntOf_fine {m : Nat} (hm : 1 ≤ m) (x : Ac) (hx : x.n < 256) : Fine m (ntOf m x) := by
  unfold ntOf; split
  · exact fine_one hm _ _ (by omega) (by omega)
  · exact .inl rfl
theorem out1_fine {m : Nat} (hm : 1 ≤ m) (x : Ac) (hx : x.o < 256) : Fine m (out1 m x) := by
  unfold out1; split
  · exact fine_one hm _ _ (by omega) (by omega)
  · exact .inl rfl
theorem outOf_fine {m : Nat} (hm : 1 ≤ m) (x : Ac) (hx : x.o < 256) : Fine m (outOf m x) := by
  unfold outOf; split
  · exact fine_two hm (out1_fine hm x hx) (out1_len m x) _
  · exact out1_fine hm x hx
theorem delayOf_bd (x : Ac) : delayOf x ≤ 4 := by unfold delayOf; split <;> omega

/-- all numbers are bytes -/
def AllOk (acs : List Ac) : Prop := ∀ x ∈ acs, x.ok
theorem AllOk.at_ {acs : List Ac} (h : AllOk acs) (k : Nat) : (acs.getD k Ac.zero).ok := by
  by_cases hk : k < acs.length
  · rw [List.getD_eq_getElem?_getD, List.getElem?_eq_getElem hk]; exact h _ (List.getElem_mem hk)
  · rw [List.getD_eq_getElem?_getD, List.getElem?_eq_none (by omega)]; simp [Ac.ok, Ac.zero]

theorem mkT_err {m k : Nat} (hm : 1 ≤ m) {x : Ac} (hx : x.ok) : (numB 0 (mkT m k x).delay && numB 0 (mkT m k x).prio) = true ∧ listsErr (m : Int) (mkT m k x).lists = 0 := by
  obtain ⟨_, _, _, _, h5, h6, _⟩ := hx
  have hd := delayOf_bd x
  refine ⟨?_, ?_⟩
  · have e1 : numB 0 ((delayOf x : Nat) : Int) = true := by unfold numB; rw [decide_eq_true (by omega), decide_eq_true (by omega)]; rfl
    have e2 : numB 0 ((x.p % 3 : Nat) : Int) = true := by unfold numB; rw [decide_eq_true (by omega), decide_eq_true (by omega)]; rfl
    show (numB 0 ((delayOf x : Nat) : Int) && numB 0 ((x.p % 3 : Nat) : Int)) = true
    rw [e1, e2]; rfl
  show listsErr (m : Int) [innOf m x, ntOf m x, outOf m x] = 0
  rw [listsErr, if_pos (innOf_fine hm x).err, listsErr, if_pos (ntOf_fine hm x h5).err, listsErr, if_pos (outOf_fine hm x h6).err]; rfl

theorem transErr_zero {P : Int} {ts : List Tr} (h : ∀ t ∈ ts, (numB 0 t.delay && numB 0 t.prio) = true ∧ listsErr P t.lists = 0) : transErr P ts = 0 := by
  induction ts with
  | nil => rfl
  | cons t r ih =>
    have h1 := h t (by simp)
    rw [transErr, if_neg (by rw [h1.1]; simp), if_pos h1.2]
    exact ih (fun t ht => h t (by simp [ht]))

def mkNames (m c : Nat) : List ByteArray := (List.range m).map nameP ++ (List.range c).map nameT
theorem makeN_names (ts : List Nat) (acs : List Ac) : (makeN ts acs).names = mkNames (cntP ts) (cntT acs) := by
  simp [Nt.names, makeN, mkNames, plsOf, trsOf, mkP, mkT, Function.comp_def]

set_option maxRecDepth 100000 in
theorem mkNames_good : ∀ m, m < 8 → ∀ c, c < 10 → namesBad [] (mkNames m c) = false := by decide +kernel
theorem mkNames_size : ∀ m, m < 8 → ∀ c, c < 10 → ∀ s ∈ mkNames m c, s.size ≤ 1000 := by
  intro m _ c _ s hs
  unfold mkNames at hs
  rw [List.mem_append, List.mem_map, List.mem_map] at hs
  rcases hs with ⟨k, _, rfl⟩ | ⟨k, _, rfl⟩
  · show (nameP k).data.size ≤ 1000; simp [nameP]
  · show (nameT k).data.size ≤ 1000; simp [nameT]

theorem makeN_check {ts : List Nat} {acs : List Ac} (h : AllOk acs) : checkN (makeN ts acs) = 0 := by
  have hm := cntP_bd ts
  have hc := cntT_bd acs
  have h1 : tooLongB (makeN ts acs) = false := by
    unfold tooLongB makeN
    simp only [plsOf_len, trsOf_len]
    rw [decide_eq_false (by omega), decide_eq_false (by omega)]
    simp only [Bool.false_or, List.any_eq_false]
    intro t ht
    rw [trsOf, List.mem_map] at ht
    obtain ⟨k, _, rfl⟩ := ht
    have ho := h.at_ k
    generalize acs.getD k Ac.zero = x at ho ⊢
    obtain ⟨_, _, _, _, h5, h6, _⟩ := ho
    have g1 := (innOf_fine hm.1 x).len
    have g2 := (ntOf_fine hm.1 _ h5).len
    have g3 := (outOf_fine hm.1 _ h6).len
    simp [longT, Tr.most, mkT]
    omega
  have h2 : namesBad [] (makeN ts acs).names = false := by rw [makeN_names]; exact mkNames_good _ (by omega) _ (by omega)
  have h3 : placesBad (makeN ts acs).places = false := by
    unfold placesBad makeN plsOf
    simp only [List.any_eq_false, List.mem_map]
    rintro p ⟨k, _, rfl⟩
    simp [numB, mkP]
    omega
  unfold checkN
  rw [if_neg (by rw [h1]; simp), if_neg (by rw [h2]; simp), if_neg (by rw [h3]; simp)]
  have e : (makeN ts acs).places.length = cntP ts := plsOf_len _ _
  rw [e]
  refine transErr_zero fun t ht => ?_
  unfold makeN trsOf at ht
  simp only [List.mem_map] at ht
  obtain ⟨k, _, rfl⟩ := ht
  exact mkT_err hm.1 (h.at_ k)
end Go.Proofs.Ytoicmoodhblflaa
