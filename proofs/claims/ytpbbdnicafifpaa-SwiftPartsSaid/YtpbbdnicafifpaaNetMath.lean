/-
  Nets as plain data, and the first error of a net, as the document has it.
  Conditions: none.
-/
import Derived.Test.YtpbbdnicafifpaaNamesB
namespace Go.Proofs.Ytpbbdnicafifpaa
open Go.RowKit
set_option linter.unusedVariables false

/-- a place -/
structure Pl where
  name : ByteArray
  tok : Int
/-- a transition -/
structure Tr where
  name : ByteArray
  delay : Int
  prio : Int
  inn : List (Int × Int)
  nt : List (Int × Int)
  out : List (Int × Int)
/-- a net -/
structure Nt where
  places : List Pl
  trans : List Tr

/-- is a number in its bounds? -/
def numB (lo n : Int) : Bool := decide (lo ≤ n) && decide (n ≤ 1000000)
/-- is a place's number one? -/
def inP (P x : Int) : Bool := decide (0 ≤ x) && decide (x < P)
/-- are two texts one? -/
def sEq (a b : ByteArray) : Bool := a.data.toList == b.data.toList
theorem sEq_toList (a b : ByteArray) : (a.toList == b.toList) = sEq a b := by rw [Lib.toList_data, Lib.toList_data]; rfl
theorem sEq_comm (a b : ByteArray) : sEq a b = sEq b a := by unfold sEq; exact Bool.beq_comm
/-- is a place among these? -/
def hasP (l : List (Int × Int)) (x : Int) : Bool := l.any fun a => a.1 == x
/-- is a text among these? -/
def hasS (l : List ByteArray) (s : ByteArray) : Bool := l.any fun a => sEq a s

/-- the first error of arcs, behind those that were looked at -/
def arcsErr (P : Int) : List (Int × Int) → List (Int × Int) → Int
  | _, [] => 0
  | pre, a :: r => if numB 1 a.2 = false then 3 else if inP P a.1 = false then 2 else if hasP pre a.1 = true then 1 else arcsErr P (pre ++ [a]) r

/-- the first error of some lists -/
def listsErr (P : Int) : List (List (Int × Int)) → Int
  | [] => 0
  | l :: r => if arcsErr P [] l = 0 then listsErr P r else arcsErr P [] l

/-- the three lists of a transition -/
def Tr.lists (t : Tr) : List (List (Int × Int)) := [t.inn, t.nt, t.out]

/-- the first error of transitions -/
def transErr (P : Int) : List Tr → Int
  | [] => 0
  | t :: r => if (numB 0 t.delay && numB 0 t.prio) = false then 3 else if listsErr P t.lists = 0 then transErr P r else listsErr P t.lists

/-- is a name none, or there twice? -/
def namesBad : List ByteArray → List ByteArray → Bool
  | _, [] => false
  | pre, s :: r => if nameB s.data.toList = false then true else if hasS pre s = true then true else namesBad (pre ++ [s]) r

/-- all names -/
def Nt.names (n : Nt) : List ByteArray := n.places.map (·.name) ++ n.trans.map (·.name)
/-- the length of the longest list -/
def Tr.most (t : Tr) : Nat := max (max t.inn.length t.nt.length) t.out.length
/-- has a transition too many arcs? -/
def longT (t : Tr) : Bool := decide (8 < t.most)
/-- is a net too long? -/
def tooLongB (n : Nt) : Bool := decide (32 < n.places.length) || (decide (32 < n.trans.length) || n.trans.any longT)
/-- has a place too many tokens, or too few? -/
def placesBad (l : List Pl) : Bool := l.any fun p => !numB 0 p.tok

/-- the first error of a net -/
def checkN (n : Nt) : Int := if tooLongB n = true then 5 else if namesBad [] n.names = true then 7 else if placesBad n.places = true then 3 else transErr (n.places.length : Int) n.trans

section
variable {P : Int}

theorem drop_at {α : Type} {l : List α} {k : Nat} {a : α} (h : l[k]? = some a) : l.drop k = a :: l.drop (k + 1) := by
  obtain ⟨hk, rfl⟩ := List.getElem?_eq_some_iff.1 h
  exact List.drop_eq_getElem_cons hk
theorem take_at {α : Type} {l : List α} {k : Nat} {a : α} (h : l[k]? = some a) : l.take (k + 1) = l.take k ++ [a] := by
  rw [List.take_add_one, h]; rfl
theorem lt_at {α : Type} {l : List α} {k : Nat} {a : α} (h : l[k]? = some a) : k < l.length := (List.getElem?_eq_some_iff.1 h).1
theorem at_lt {α : Type} {l : List α} {k : Nat} (h : k < l.length) : ∃ a, l[k]? = some a := ⟨_, List.getElem?_eq_getElem h⟩

/-- arcs, from place k on -/
def arcsFrom (P : Int) (l : List (Int × Int)) (k : Nat) : Int := arcsErr P (l.take k) (l.drop k)
theorem arcsFrom_zero (l : List (Int × Int)) : arcsFrom P l 0 = arcsErr P [] l := by simp [arcsFrom]
theorem arcsFrom_end (l : List (Int × Int)) (k : Nat) (h : l.length ≤ k) : arcsFrom P l k = 0 := by
  unfold arcsFrom; rw [List.drop_of_length_le h]; rfl
theorem arcsFrom_step {l : List (Int × Int)} {k : Nat} {a : Int × Int} (h : l[k]? = some a) :
    arcsFrom P l k = if numB 1 a.2 = false then 3 else if inP P a.1 = false then 2 else if hasP (l.take k) a.1 = true then 1 else arcsFrom P l (k + 1) := by
  unfold arcsFrom; rw [drop_at h, take_at h, arcsErr]

theorem arcsErr_num (pre l : List (Int × Int)) : arcsErr P pre l = 0 ∨ arcsErr P pre l = 1 ∨ arcsErr P pre l = 2 ∨ arcsErr P pre l = 3 := by
  induction l generalizing pre with
  | nil => exact .inl rfl
  | cons a r ih =>
    rw [arcsErr]
    split
    · exact .inr (.inr (.inr rfl))
    · split
      · exact .inr (.inr (.inl rfl))
      · split
        · exact .inr (.inl rfl)
        · exact ih _

def listsFrom (P : Int) (ls : List (List (Int × Int))) (k : Nat) : Int := listsErr P (ls.drop k)
theorem listsFrom_zero (ls : List (List (Int × Int))) : listsFrom P ls 0 = listsErr P ls := by simp [listsFrom]
theorem listsFrom_end (ls : List (List (Int × Int))) (k : Nat) (h : ls.length ≤ k) : listsFrom P ls k = 0 := by
  unfold listsFrom; rw [List.drop_of_length_le h]; rfl
theorem listsFrom_step {ls : List (List (Int × Int))} {k : Nat} {l : List (Int × Int)} (h : ls[k]? = some l) :
    listsFrom P ls k = if arcsErr P [] l = 0 then listsFrom P ls (k + 1) else arcsErr P [] l := by
  unfold listsFrom; rw [drop_at h, listsErr]
theorem listsErr_num (ls : List (List (Int × Int))) : listsErr P ls = 0 ∨ listsErr P ls = 1 ∨ listsErr P ls = 2 ∨ listsErr P ls = 3 := by
  induction ls with
  | nil => exact .inl rfl
  | cons l r ih =>
    rw [listsErr]
    split
    · exact ih
    · exact arcsErr_num _ _

def transFrom (P : Int) (ts : List Tr) (k : Nat) : Int := transErr P (ts.drop k)
theorem transFrom_zero (ts : List Tr) : transFrom P ts 0 = transErr P ts := by simp [transFrom]
theorem transFrom_end (ts : List Tr) (k : Nat) (h : ts.length ≤ k) : transFrom P ts k = 0 := by
  unfold transFrom; rw [List.drop_of_length_le h]; rfl
theorem transFrom_step {ts : List Tr} {k : Nat} {t : Tr} (h : ts[k]? = some t) :
    transFrom P ts k = if (numB 0 t.delay && numB 0 t.prio) = false then 3 else if listsErr P t.lists = 0 then transFrom P ts (k + 1) else listsErr P t.lists := by
  unfold transFrom; rw [drop_at h, transErr]

def namesFrom (l : List ByteArray) (k : Nat) : Bool := namesBad (l.take k) (l.drop k)
theorem namesFrom_zero (l : List ByteArray) : namesFrom l 0 = namesBad [] l := by simp [namesFrom]
theorem namesFrom_end (l : List ByteArray) (k : Nat) (h : l.length ≤ k) : namesFrom l k = false := by
  unfold namesFrom; rw [List.drop_of_length_le h]; rfl
theorem namesFrom_step {l : List ByteArray} {k : Nat} {s : ByteArray} (h : l[k]? = some s) :
    namesFrom l k = if nameB s.data.toList = false then true else if hasS (l.take k) s = true then true else namesFrom l (k + 1) := by
  unfold namesFrom; rw [drop_at h, take_at h, namesBad]

/-- some of a list, from place k on -/
def anyFrom {α : Type} (f : α → Bool) (l : List α) (k : Nat) : Bool := (l.drop k).any f
theorem anyFrom_zero {α : Type} (f : α → Bool) (l : List α) : anyFrom f l 0 = l.any f := by simp [anyFrom]
theorem anyFrom_end {α : Type} (f : α → Bool) (l : List α) (k : Nat) (h : l.length ≤ k) : anyFrom f l k = false := by
  unfold anyFrom; rw [List.drop_of_length_le h]; rfl
theorem anyFrom_yes {α : Type} {f : α → Bool} {l : List α} {k : Nat} {a : α} (h : l[k]? = some a) (hf : f a = true) : anyFrom f l k = true := by
  unfold anyFrom; rw [drop_at h]; simp [hf]
theorem anyFrom_no {α : Type} {f : α → Bool} {l : List α} {k : Nat} {a : α} (h : l[k]? = some a) (hf : f a = false) : anyFrom f l k = anyFrom f l (k + 1) := by
  unfold anyFrom; rw [drop_at h]; simp [hf]

/-- the first place of a list, from place k on, of which f holds; or -1 -/
def idxFrom {α : Type} (f : α → Bool) (l : List α) (k : Nat) : Int :=
  if anyFrom f l k = true then ((k + (l.drop k).findIdx f : Nat) : Int) else -1
theorem idxFrom_end {α : Type} (f : α → Bool) (l : List α) (k : Nat) (h : l.length ≤ k) : idxFrom f l k = -1 := by
  unfold idxFrom; rw [anyFrom_end f l k h]; rfl
theorem idxFrom_yes {α : Type} {f : α → Bool} {l : List α} {k : Nat} {a : α} (h : l[k]? = some a) (hf : f a = true) : idxFrom f l k = (k : Int) := by
  unfold idxFrom; rw [anyFrom_yes h hf, drop_at h, List.findIdx_cons, hf]; simp
theorem idxFrom_no {α : Type} {f : α → Bool} {l : List α} {k : Nat} {a : α} (h : l[k]? = some a) (hf : f a = false) : idxFrom f l k = idxFrom f l (k + 1) := by
  unfold idxFrom; rw [anyFrom_no h hf, drop_at h, List.findIdx_cons, hf]
  simp only [cond_false]
  split
  · congr 1; omega
  · rfl
/-- the first place of which f holds; or -1 -/
def idxOf {α : Type} (f : α → Bool) (l : List α) : Int := idxFrom f l 0
theorem idxOf_ge {α : Type} (f : α → Bool) (l : List α) : (decide (0 ≤ idxOf f l)) = l.any f := by
  unfold idxOf idxFrom
  rw [anyFrom_zero]
  cases h : l.any f with
  | true => rw [if_pos rfl]; exact decide_eq_true (by omega)
  | false => rw [if_neg (by simp)]; rfl
theorem idxOf_no {α : Type} {f : α → Bool} {l : List α} (h : l.any f = false) : idxOf f l = -1 := by
  unfold idxOf idxFrom; rw [anyFrom_zero, h]; rfl
theorem idxOf_yes {α : Type} {f : α → Bool} {l : List α} (h : l.any f = true) : 0 ≤ idxOf f l := by
  unfold idxOf idxFrom; rw [anyFrom_zero, h, if_pos rfl]; omega

end

end Go.Proofs.Ytpbbdnicafifpaa
