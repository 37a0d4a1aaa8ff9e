/-
  Nets that are made from numbers, as plain data; they may be. Rows of arcs, places and transitions that a call has made: one more put at the end; what the document's own put comes to. Several rows of the call's own, all apart; boxes are rows of one element. Drafts that can be read; what the document's own Make has at hand. What the document's own Make has at hand, step by step.
  Conditions: none beyond each theorem's own.
-/
import Derived.Test.YtpbbdnicafifpaaNetMath
import Derived.Test.YtpbbdnicafifpaaNetW
import Derived.Test.YtpbbdnicafifpaaBase4
import Derived.IntWalk
import Derived.Deep.CutRange
import Derived.Deep.RegionHeld3
import Derived.StillTailTactics
/-! ## MakeMath -/
namespace Go.Proofs.Ytpbbdnicafifpaa
open Go.RowKit
set_option linter.unusedVariables false

/-- a transition, by numbers -/
structure Ac where
  d : Nat
  p : Nat
  i : Nat
  j : Nat
  n : Nat
  o : Nat
  q : Nat

def Ac.zero : Ac := ⟨0, 0, 0, 0, 0, 0, 0⟩
/-- are its numbers bytes? -/
def Ac.ok (x : Ac) : Prop := x.d < 256 ∧ x.p < 256 ∧ x.i < 256 ∧ x.j < 256 ∧ x.n < 256 ∧ x.o < 256 ∧ x.q < 256

/-- one more arc, if its place isn't there -/
def putL (l : List (Int × Int)) (p n : Int) : List (Int × Int) := if hasP l p = true then l else l ++ [(p, n)]

def nameP (k : Nat) : ByteArray := { data := #[112, UInt8.ofNat (97 + k)] }
def nameT (k : Nat) : ByteArray := { data := #[116, UInt8.ofNat (48 + k), 46, 120] }

def inn1 (m : Nat) (x : Ac) : List (Int × Int) := putL [] ((x.i % m : Nat) : Int) ((1 + x.i / 64 % 2 : Nat) : Int)
def innOf (m : Nat) (x : Ac) : List (Int × Int) := if x.j % 3 = 0 then putL (inn1 m x) ((x.j / 3 % m : Nat) : Int) 1 else inn1 m x
def ntOf (m : Nat) (x : Ac) : List (Int × Int) := if x.n % 4 = 0 then putL [] ((x.n / 4 % m : Nat) : Int) ((1 + x.n / 64 : Nat) : Int) else []
def out1 (m : Nat) (x : Ac) : List (Int × Int) := if 0 < x.o % 5 then putL [] ((x.o / 5 % m : Nat) : Int) ((1 + x.o / 128 : Nat) : Int) else []
def outOf (m : Nat) (x : Ac) : List (Int × Int) := if 0 < x.q % 3 then putL (out1 m x) ((x.q / 3 % m : Nat) : Int) 1 else out1 m x
def delayOf (x : Ac) : Nat := if x.d % 5 = 0 ∧ x.d < 128 then 1 else x.d % 5

def mkT (m k : Nat) (x : Ac) : Tr := ⟨nameT k, (delayOf x : Int), (x.p % 3 : Nat), innOf m x, ntOf m x, outOf m x⟩
def mkP (ts : List Nat) (k : Nat) : Pl := ⟨nameP k, ((ts.getD k 0 % 5 : Nat) : Int)⟩

def cntP (ts : List Nat) : Nat := 1 + ts.length % 7
def cntT (acs : List Ac) : Nat := min acs.length 9
def plsOf (ts : List Nat) (k : Nat) : List Pl := (List.range k).map (mkP ts)
def trsOf (m : Nat) (acs : List Ac) (k : Nat) : List Tr := (List.range k).map fun i => mkT m i (acs.getD i Ac.zero)
/-- the net that is made of numbers -/
def makeN (ts : List Nat) (acs : List Ac) : Nt := ⟨plsOf ts (cntP ts), trsOf (cntP ts) acs (cntT acs)⟩

theorem mkT_int (m k : Nat) (x : Ac) (nm : ByteArray) (h : nm = nameT k) : mkT m k x = ⟨nm, ((delayOf x : Nat) : Int), (x.p : Int) % 3, innOf m x, ntOf m x, outOf m x⟩ := by subst h; rfl
theorem delayOf_yes (x : Ac) (h1 : x.d % 5 = 0) (h2 : x.d < 128) : ((delayOf x : Nat) : Int) = 1 := by unfold delayOf; rw [if_pos ⟨h1, h2⟩]; rfl
theorem delayOf_no (x : Ac) (h : ¬ (x.d % 5 = 0 ∧ x.d < 128)) : ((delayOf x : Nat) : Int) = (x.d : Int) % 5 := by unfold delayOf; rw [if_neg h]; rfl
theorem plsOf_succ (ts : List Nat) (k : Nat) : plsOf ts (k + 1) = plsOf ts k ++ [mkP ts k] := by simp [plsOf, List.range_succ]
theorem trsOf_succ (m : Nat) (acs : List Ac) (k : Nat) : trsOf m acs (k + 1) = trsOf m acs k ++ [mkT m k (acs.getD k Ac.zero)] := by simp [trsOf, List.range_succ]
theorem plsOf_len (ts : List Nat) (k : Nat) : (plsOf ts k).length = k := by simp [plsOf]
theorem trsOf_len (m : Nat) (acs : List Ac) (k : Nat) : (trsOf m acs k).length = k := by simp [trsOf]
theorem cntP_bd (ts : List Nat) : 1 ≤ cntP ts ∧ cntP ts ≤ 7 := by unfold cntP; omega
theorem cntT_bd (acs : List Ac) : cntT acs ≤ 9 := by unfold cntT; omega

theorem putL_nil (p n : Int) : putL [] p n = [(p, n)] := rfl
theorem putL_one (p n q m : Int) : putL [(p, n)] q m = if p = q then [(p, n)] else [(p, n), (q, m)] := by
  unfold putL hasP
  by_cases h : p = q
  · simp [h]
  · simp [h]

/-- the lists that are made: none, one, or two arcs of unlike places -/
def Fine (m : Nat) (l : List (Int × Int)) : Prop :=
  l = [] ∨ (∃ p n : Int, l = [(p, n)] ∧ 0 ≤ p ∧ p < m ∧ 1 ≤ n ∧ n ≤ 1000) ∨ (∃ p n q k : Int, l = [(p, n), (q, k)] ∧ p ≠ q ∧ 0 ≤ p ∧ p < m ∧ 1 ≤ n ∧ n ≤ 1000 ∧ 0 ≤ q ∧ q < m ∧ 1 ≤ k ∧ k ≤ 1000)

theorem Fine.len {m : Nat} {l : List (Int × Int)} (h : Fine m l) : l.length ≤ 2 := by
  rcases h with rfl | ⟨p, n, rfl, _⟩ | ⟨p, n, q, k, rfl, _⟩ <;> simp

theorem Fine.err {m : Nat} {l : List (Int × Int)} (h : Fine m l) : arcsErr (m : Int) [] l = 0 := by
  rcases h with rfl | ⟨p, n, rfl, h1, h2, h3, h4⟩ | ⟨p, n, q, k, rfl, h0, h1, h2, h3, h4, h5, h6, h7, h8⟩
  · rfl
  · rw [arcsErr, if_neg (by simp [numB]; omega), if_neg (by simp [inP]; omega), if_neg (by simp [hasP])]; rfl
  · rw [arcsErr, if_neg (by simp [numB]; omega), if_neg (by simp [inP]; omega), if_neg (by simp [hasP]), arcsErr, if_neg (by simp [numB]; omega), if_neg (by simp [inP]; omega), if_neg (by simp [hasP, h0])]; rfl

theorem fine_one {m : Nat} (hm : 1 ≤ m) (a n : Nat) (h1 : 1 ≤ n) (h2 : n ≤ 1000) : Fine m (putL [] ((a % m : Nat) : Int) (n : Int)) :=
  .inr (.inl ⟨_, _, rfl, by omega, by have := Nat.mod_lt a hm; omega, by omega, by omega⟩)
theorem fine_two {m : Nat} (hm : 1 ≤ m) {l : List (Int × Int)} (hl : Fine m l) (hl1 : l.length ≤ 1) (a : Nat) : Fine m (putL l ((a % m : Nat) : Int) 1) := by
  have ha : ((a % m : Nat) : Int) < m := by have := Nat.mod_lt a hm; omega
  rcases hl with rfl | ⟨p, n, rfl, h1, h2, h3, h4⟩ | ⟨p, n, q, k, rfl, _⟩
  · exact .inr (.inl ⟨_, _, rfl, by omega, ha, by omega, by omega⟩)
  · rw [putL_one]
    split
    · exact .inr (.inl ⟨_, _, rfl, h1, h2, h3, h4⟩)
    · rename_i hne
      exact .inr (.inr ⟨_, _, _, _, rfl, hne, h1, h2, h3, h4, by omega, ha, by omega, by omega⟩)
  · simp at hl1

theorem inn1_int (m : Nat) (x : Ac) : inn1 m x = putL [] ((x.i : Int) % (m : Int)) (1 + (x.i : Int) / 64 % 2) := rfl
theorem innOf_yes (m : Nat) (x : Ac) (h : x.j % 3 = 0) : innOf m x = putL (inn1 m x) ((x.j : Int) / 3 % (m : Int)) 1 := by unfold innOf; rw [if_pos h]; rfl
theorem innOf_no (m : Nat) (x : Ac) (h : ¬ x.j % 3 = 0) : innOf m x = inn1 m x := by unfold innOf; rw [if_neg h]
theorem ntOf_yes (m : Nat) (x : Ac) (h : x.n % 4 = 0) : ntOf m x = putL [] ((x.n : Int) / 4 % (m : Int)) (1 + (x.n : Int) / 64) := by unfold ntOf; rw [if_pos h]; rfl
theorem ntOf_no (m : Nat) (x : Ac) (h : ¬ x.n % 4 = 0) : ntOf m x = [] := by unfold ntOf; rw [if_neg h]
theorem out1_yes (m : Nat) (x : Ac) (h : 0 < x.o % 5) : out1 m x = putL [] ((x.o : Int) / 5 % (m : Int)) (1 + (x.o : Int) / 128) := by unfold out1; rw [if_pos h]; rfl
theorem out1_no (m : Nat) (x : Ac) (h : ¬ 0 < x.o % 5) : out1 m x = [] := by unfold out1; rw [if_neg h]
theorem outOf_yes (m : Nat) (x : Ac) (h : 0 < x.q % 3) : outOf m x = putL (out1 m x) ((x.q : Int) / 3 % (m : Int)) 1 := by unfold outOf; rw [if_pos h]; rfl
theorem outOf_no (m : Nat) (x : Ac) (h : ¬ 0 < x.q % 3) : outOf m x = out1 m x := by unfold outOf; rw [if_neg h]
theorem inn1_len (m : Nat) (x : Ac) : (inn1 m x).length = 1 := rfl
theorem out1_len (m : Nat) (x : Ac) : (out1 m x).length ≤ 1 := by unfold out1; split <;> simp [putL_nil]
theorem inn1_fine {m : Nat} (hm : 1 ≤ m) (x : Ac) : Fine m (inn1 m x) := fine_one hm _ _ (by omega) (by omega)
theorem innOf_fine {m : Nat} (hm : 1 ≤ m) (x : Ac) : Fine m (innOf m x) := by
  unfold innOf; split
  · exact fine_two hm (inn1_fine hm x) (by rw [inn1_len]; omega) _
  · exact inn1_fine hm x
theorem innOf_pos (m : Nat) (x : Ac) : 1 ≤ (innOf m x).length := by
  unfold innOf inn1; rw [putL_nil]; split
  · rw [putL_one]; split <;> simp
  · simp
theorem ntOf_fine {m : Nat} (hm : 1 ≤ m) (x : Ac) (hx : x.n < 256) : Fine m (ntOf m x) := by
  unfold ntOf; split
  · exact fine_one hm _ _ (by omega) (by omega)
  · exact .inl rfl
theorem out1_fine {m : Nat} (hm : 1 ≤ m) (x : Ac) (hx : x.o < 256) : Fine m (out1 m x) := by
  unfold out1; split
  · exact fine_one hm _ _ (by omega) (by omega)
  · exact .inl rfl
theorem outOf_fine {m : Nat} (hm : 1 ≤ m) (x : Ac) (hx : x.o < 256) : Fine m (outOf m x) := by
  unfold outOf; split
  · exact fine_two hm (out1_fine hm x hx) (out1_len m x) _
  · exact out1_fine hm x hx
theorem delayOf_bd (x : Ac) : delayOf x ≤ 4 := by unfold delayOf; split <;> omega

/-- all numbers are bytes -/
def AllOk (acs : List Ac) : Prop := ∀ x ∈ acs, x.ok
theorem AllOk.at_ {acs : List Ac} (h : AllOk acs) (k : Nat) : (acs.getD k Ac.zero).ok := by
  by_cases hk : k < acs.length
  · rw [List.getD_eq_getElem?_getD, List.getElem?_eq_getElem hk]; exact h _ (List.getElem_mem hk)
  · rw [List.getD_eq_getElem?_getD, List.getElem?_eq_none (by omega)]; simp [Ac.ok, Ac.zero]

theorem mkT_err {m k : Nat} (hm : 1 ≤ m) {x : Ac} (hx : x.ok) : (numB 0 (mkT m k x).delay && numB 0 (mkT m k x).prio) = true ∧ listsErr (m : Int) (mkT m k x).lists = 0 := by
  obtain ⟨_, _, _, _, h5, h6, _⟩ := hx
  have hd := delayOf_bd x
  refine ⟨?_, ?_⟩
  · have e1 : numB 0 ((delayOf x : Nat) : Int) = true := by unfold numB; rw [decide_eq_true (by omega), decide_eq_true (by omega)]; rfl
    have e2 : numB 0 ((x.p % 3 : Nat) : Int) = true := by unfold numB; rw [decide_eq_true (by omega), decide_eq_true (by omega)]; rfl
    show (numB 0 ((delayOf x : Nat) : Int) && numB 0 ((x.p % 3 : Nat) : Int)) = true
    rw [e1, e2]; rfl
  show listsErr (m : Int) [innOf m x, ntOf m x, outOf m x] = 0
  rw [listsErr, if_pos (innOf_fine hm x).err, listsErr, if_pos (ntOf_fine hm x h5).err, listsErr, if_pos (outOf_fine hm x h6).err]; rfl

theorem transErr_zero {P : Int} {ts : List Tr} (h : ∀ t ∈ ts, (numB 0 t.delay && numB 0 t.prio) = true ∧ listsErr P t.lists = 0) : transErr P ts = 0 := by
  induction ts with
  | nil => rfl
  | cons t r ih =>
    have h1 := h t (by simp)
    rw [transErr, if_neg (by rw [h1.1]; simp), if_pos h1.2]
    exact ih (fun t ht => h t (by simp [ht]))

def mkNames (m c : Nat) : List ByteArray := (List.range m).map nameP ++ (List.range c).map nameT
theorem makeN_names (ts : List Nat) (acs : List Ac) : (makeN ts acs).names = mkNames (cntP ts) (cntT acs) := by
  simp [Nt.names, makeN, mkNames, plsOf, trsOf, mkP, mkT, Function.comp_def]

set_option maxRecDepth 100000 in
theorem mkNames_good : ∀ m, m < 8 → ∀ c, c < 10 → namesBad [] (mkNames m c) = false := by decide +kernel
theorem mkNames_size : ∀ m, m < 8 → ∀ c, c < 10 → ∀ s ∈ mkNames m c, s.size ≤ 1000 := by
  intro m _ c _ s hs
  unfold mkNames at hs
  rw [List.mem_append, List.mem_map, List.mem_map] at hs
  rcases hs with ⟨k, _, rfl⟩ | ⟨k, _, rfl⟩
  · show (nameP k).data.size ≤ 1000; simp [nameP]
  · show (nameT k).data.size ≤ 1000; simp [nameT]

theorem makeN_check {ts : List Nat} {acs : List Ac} (h : AllOk acs) : checkN (makeN ts acs) = 0 := by
  have hm := cntP_bd ts
  have hc := cntT_bd acs
  have h1 : tooLongB (makeN ts acs) = false := by
    unfold tooLongB makeN
    simp only [plsOf_len, trsOf_len]
    rw [decide_eq_false (by omega), decide_eq_false (by omega)]
    simp only [Bool.false_or, List.any_eq_false]
    intro t ht
    rw [trsOf, List.mem_map] at ht
    obtain ⟨k, _, rfl⟩ := ht
    have ho := h.at_ k
    generalize acs.getD k Ac.zero = x at ho ⊢
    obtain ⟨_, _, _, _, h5, h6, _⟩ := ho
    have g1 := (innOf_fine hm.1 x).len
    have g2 := (ntOf_fine hm.1 _ h5).len
    have g3 := (outOf_fine hm.1 _ h6).len
    simp [longT, Tr.most, mkT]
    omega
  have h2 : namesBad [] (makeN ts acs).names = false := by rw [makeN_names]; exact mkNames_good _ (by omega) _ (by omega)
  have h3 : placesBad (makeN ts acs).places = false := by
    unfold placesBad makeN plsOf
    simp only [List.any_eq_false, List.mem_map]
    rintro p ⟨k, _, rfl⟩
    simp [numB, mkP]
    omega
  unfold checkN
  rw [if_neg (by rw [h1]; simp), if_neg (by rw [h2]; simp), if_neg (by rw [h3]; simp)]
  have e : (makeN ts acs).places.length = cntP ts := plsOf_len _ _
  rw [e]
  refine transErr_zero fun t ht => ?_
  unfold makeN trsOf at ht
  simp only [List.mem_map] at ht
  obtain ⟨k, _, rfl⟩ := ht
  exact mkT_err hm.1 (h.at_ k)
end Go.Proofs.Ytpbbdnicafifpaa

/-! ## Put -/
namespace Go.Proofs.Ytpbbdnicafifpaa
open Go.RowKit
set_option linter.unusedVariables false

theorem Try.infoArc : (Try.prog.info? 76).map (fun i => (i.zero, i.size, i.bytes)) = some (some (.agg #[.int .i64 0, .int .i64 0]), 2, 16) := by kernel_rfl
theorem Try.infoPlace : (Try.prog.info? 57).map (fun i => (i.zero, i.size, i.bytes)) = some (some (.agg #[.string { data := #[] }, .int .i64 0]), 2, 24) := by kernel_rfl
theorem Try.infoTrans : (Try.prog.info? 79).map (fun i => (i.zero, i.size, i.bytes)) = some (some (.agg #[.string { data := #[] }, .int .i64 0, .int .i64 0, .slice none 0 0, .slice none 0 0, .slice none 0 0]), 6, 104) := by kernel_rfl

theorem cell_newL (w : World) (cs : Array Value) (t : TypeId) : ∀ j x, cs.toList[j]? = some x → (w.alloc (.cells cs t)).cell? ((⟨w.heap.size, 0, none⟩ : Addr).add j) = some x := by
  intro j x hj
  have hb := heap_alloc_new w (.cells cs t)
  have e : (⟨w.heap.size, 0, none⟩ : Addr).add j = ⟨w.heap.size, j, none⟩ := by simp [Addr.add]; omega
  rw [e, cell_of_row _ _ j _ _ (0, 0) hb, ← hj]
  simp

abbrev OwnA (B : Nat) (w : World) (v : Value) (l : List (Int × Int)) : Prop := w.ownsRow B 76 2 v l.length (l.flatMap arcL)
abbrev OwnP (B : Nat) (w : World) (v : Value) (l : List Pl) : Prop := w.ownsRow B 57 2 v l.length (l.flatMap plL)
abbrev OwnT (B : Nat) (w : World) (v : Value) (l : List (Tr × Value × Value × Value)) : Prop := w.ownsRow B 79 6 v l.length (l.flatMap trL)

theorem OwnA.at_ {B : Nat} {w : World} {v : Value} {l : List (Int × Int)} (h : OwnA B w v l) : ArcsAt w v l := RowAt.of_own h
theorem OwnP.at_ {B : Nat} {w : World} {v : Value} {l : List Pl} (h : OwnP B w v l) : PlsAt w v l := RowAt.of_own h

/-- 'append(l, x)' -/
theorem run_push_arc {B : Nat} {v : Value} {l : List (Int × Int)} (ty : TypeId) (p n : Int) {w : World} (h : OwnA B w v l) (hl : l.length ≤ 1000000) (hB : B ≤ w.heap.size) :
    ∃ v' w', (Builtin.append_ #[77, 77] ty #[v, .slice (some ⟨w.heap.size, 0, none⟩) 1 1]).run Try.prog (w.alloc (.cells #[.int .i64 p, .int .i64 n] 76)) = .ok v' w' ∧ OwnA B w' v' (l ++ [(p, n)]) ∧
      Kept (fun k => v.ownBlock = some k) w w' ∧ (v'.ownBlock = v.ownBlock ∨ v'.ownBlock = some (w.heap.size + 1)) := by
  obtain ⟨i0, hi0, hz0, hz1, hz2⟩ := info_parts Try.infoArc
  obtain ⟨v', w', hr, h2, h3, _, h5⟩ := run_append_own_at (P := Try.prog) (w.alloc (.cells #[.int .i64 p, .int .i64 n] 76)) B 77 ty 76 i0 _ 2 16 Try.underlying77 hi0 hz0 hz1 hz2 rfl (by omega) v l.length (l.flatMap arcL) (h.alloc _)
    ⟨w.heap.size, 0, none⟩ 1 1 (arcL (p, n)) rfl (cell_newL w _ _) (by simp [arcL, Value.oneCell']) (by unfold maxLen; omega) (by omega) (by simp; omega)
  exact ⟨v', w', hr, by rw [OwnA, List.flatMap_append, List.length_append]; simpa using h2, ((Kept.refl _ w).alloc _).grown h3 (fun _ h => h), by simpa using h5⟩

theorem run_push_pl {B : Nat} {v : Value} {l : List Pl} (ty : TypeId) (x : Pl) {w : World} (h : OwnP B w v l) (hl : l.length ≤ 1000000) (hB : B ≤ w.heap.size) :
    ∃ v' w', (Builtin.append_ #[28, 28] ty #[v, .slice (some ⟨w.heap.size, 0, none⟩) 1 1]).run Try.prog (w.alloc (.cells #[.string x.name, .int .i64 x.tok] 57)) = .ok v' w' ∧ OwnP B w' v' (l ++ [x]) ∧
      Kept (fun k => v.ownBlock = some k) w w' ∧ (v'.ownBlock = v.ownBlock ∨ v'.ownBlock = some (w.heap.size + 1)) := by
  obtain ⟨i0, hi0, hz0, hz1, hz2⟩ := info_parts Try.infoPlace
  obtain ⟨v', w', hr, h2, h3, _, h5⟩ := run_append_own_at (P := Try.prog) (w.alloc (.cells #[.string x.name, .int .i64 x.tok] 57)) B 28 ty 57 i0 _ 2 24 Try.underlying28 hi0 hz0 hz1 hz2 rfl (by omega) v l.length (l.flatMap plL) (h.alloc _)
    ⟨w.heap.size, 0, none⟩ 1 1 (plL x) rfl (cell_newL w _ _) (by simp [plL, Value.oneCell']) (by unfold maxLen; omega) (by omega) (by simp; omega)
  exact ⟨v', w', hr, by rw [OwnP, List.flatMap_append, List.length_append]; simpa using h2, ((Kept.refl _ w).alloc _).grown h3 (fun _ h => h), by simpa using h5⟩

theorem run_push_tr {B : Nat} {v : Value} {l : List (Tr × Value × Value × Value)} (ty : TypeId) (x : Tr × Value × Value × Value) {w : World} (h : OwnT B w v l) (g1 : x.2.1.oneCell' = true) (g2 : x.2.2.1.oneCell' = true) (g3 : x.2.2.2.oneCell' = true) (hl : l.length ≤ 1000000) (hB : B ≤ w.heap.size) :
    ∃ v' w', (Builtin.append_ #[29, 29] ty #[v, .slice (some ⟨w.heap.size, 0, none⟩) 1 1]).run Try.prog (w.alloc (.cells #[.string x.1.name, .int .i64 x.1.delay, .int .i64 x.1.prio, x.2.1, x.2.2.1, x.2.2.2] 79)) = .ok v' w' ∧ OwnT B w' v' (l ++ [x]) ∧
      Kept (fun k => v.ownBlock = some k) w w' ∧ (v'.ownBlock = v.ownBlock ∨ v'.ownBlock = some (w.heap.size + 1)) := by
  obtain ⟨i0, hi0, hz0, hz1, hz2⟩ := info_parts Try.infoTrans
  obtain ⟨v', w', hr, h2, h3, _, h5⟩ := run_append_own_at (P := Try.prog) (w.alloc (.cells #[.string x.1.name, .int .i64 x.1.delay, .int .i64 x.1.prio, x.2.1, x.2.2.1, x.2.2.2] 79)) B 29 ty 79 i0 _ 6 104 Try.underlying29 hi0 hz0 hz1 hz2 rfl (by omega) v l.length (l.flatMap trL) (h.alloc _)
    ⟨w.heap.size, 0, none⟩ 1 1 (trL x) rfl (cell_newL w _ _) (fun u hu => by
      simp only [trL, List.mem_cons, List.not_mem_nil, or_false] at hu
      rcases hu with rfl | rfl | rfl | rfl | rfl | rfl
      · rfl
      · rfl
      · rfl
      · exact g1
      · exact g2
      · exact g3) (by unfold maxLen; omega) (by omega) (by simp; omega)
  exact ⟨v', w', hr, by rw [OwnT, List.flatMap_append, List.length_append]; simpa using h2, ((Kept.refl _ w).alloc _).grown h3 (fun _ h => h), by simpa using h5⟩

/-- what put answers: the row as it was, or one more at its end -/
structure PutOut (B : Nat) (w w' : World) (v v' : Value) (l : List (Int × Int)) : Prop where
  own : OwnA B w' v' l
  kept : Kept (fun k => v.ownBlock = some k) w w'
  fresh : v'.ownBlock = v.ownBlock ∨ ∃ k, v'.ownBlock = some k ∧ w.heap.size ≤ k
  slice : ∃ a c, v' = .slice a l.length c

set_option maxRecDepth 100000 in
set_option maxHeartbeats 1000000 in
theorem put_any {B : Nat} {w : World} {l : List (Int × Int)} {v : Value} {p n : Int} (h : OwnA B w v l) (hl : l.length ≤ 1000) (hB : B ≤ w.heap.size) :
    Calls Try.prog 43 #[v, .int .i64 p, .int .i64 n] w fun e w' => ∃ v', e = .returned v' ∧ PutOut B w w' v v' (putL l p n) := by
  obtain ⟨v2, w2, hr, ho2, hk2, hv2⟩ := run_push_arc 77 p n h (by omega) hB
  have hA := h.at_
  obtain ⟨a, cap, rfl⟩ := RowAt.len hA
  obtain ⟨m, hm⟩ : ∃ m, m = l.length := ⟨_, rfl⟩
  have H := Lib.hid h
  have HA := Lib.hid hA
  have Hm := Lib.hid hm
  have Ho2 := Lib.hid ho2
  have Hk2 := Lib.hid hk2
  have Hv2 := Lib.hid hv2
  rw [← hm] at H HA Hk2 Hv2 hr hl ⊢
  clear h hA hm ho2 hk2 hv2
  go_enter Try.func43, Try.ntmps43
  go_wp2
  go_loop [7] (fun i => ∃ k : Nat, k ≤ m ∧ i = .int .i64 k ∧ Hid (hasP l p = anyFrom (fun a => a.1 == p) l k)) (fun i => m - (intOf i).toNat)
  case atStart => exact ⟨0, by omega, rfl, Lib.hid (by rw [anyFrom_zero]; rfl)⟩
  case round =>
    obtain ⟨k, hk, rfl, Hk⟩ := hrel
    by_cases hlt : k < m
    · obtain ⟨⟨x, y⟩, hx⟩ := at_lt (l := l) (k := k) (by rw [← Hm.out]; exact hlt)
      have hlti : (k : Int) < (m : Int) := by omega
      obtain ⟨b, off, rfl, hbw, e0, e1⟩ := ArcsAt.at_ HA.out hx
      have Hx := Lib.hid hx
      clear hx
      cases hf : (x == p) with
      | true =>
        have Hr : Hid (putL l p n = l) := Lib.hid (by unfold putL; rw [if_pos (by rw [Hk.out]; exact anyFrom_yes Hx.out hf)])
        go_wp2
        go_ret
        exact ⟨_, rfl, by rw [Hr.out]; exact ⟨by rw [OwnA, ← Hm.out]; exact Hm.out ▸ H.out, Kept.refl _ _, .inl rfl, _, _, by rw [← Hm.out]; rfl⟩⟩
      | false =>
        have Hr : Hid (hasP l p = anyFrom (fun a => a.1 == p) l (k + 1)) := Lib.hid (by rw [Hk.out]; exact anyFrom_no Hx.out hf)
        go_wp2
        go_round
        case rel => exact ⟨k + 1, by omega, by go_num, Hr⟩
        case measure => simp [intOf]; omega
    · have hge : ¬ (k : Int) < (m : Int) := by omega
      have Hr : Hid (putL l p n = l ++ [(p, n)]) := Lib.hid (by
        have e0 : hasP l p = false := by rw [Hk.out]; exact anyFrom_end _ _ _ (by rw [← Hm.out]; omega)
        unfold putL; rw [if_neg (by rw [e0]; simp)])
      go_wp2_with (at_builtin; refine wpList_append_eq rfl (.tmp 22) (.tmp 26) 77 rfl rfl rfl hr ?_)
      go_ret
      refine ⟨_, rfl, ?_⟩
      rw [Hr.out]
      refine ⟨Ho2.out, Hk2.out, ?_, RowAt.len (OwnA.at_ Ho2.out)⟩
      rcases Hv2.out with e | e
      · exact .inl e
      · exact .inr ⟨_, e, by omega⟩
end Go.Proofs.Ytpbbdnicafifpaa

/-! ## AllOwn -/
namespace Go.Proofs.Ytpbbdnicafifpaa
open Go.RowKit
set_option linter.unusedVariables false

/-- a row: its elements' type and size, its slice, how many, its cells -/
structure Row where
  e : TypeId
  size : Nat
  v : Value
  n : Nat
  xs : List Value

def Row.own (B : Nat) (w : World) (r : Row) : Prop := w.ownsRow B r.e r.size r.v r.n r.xs
def Apart (a b : Row) : Prop := ∀ k, a.v.ownBlock = some k → b.v.ownBlock = some k → False
theorem Apart.symm {a b : Row} (h : Apart a b) : Apart b a := fun k h1 h2 => h k h2 h1

structure AllOwn (B : Nat) (w : World) (rs : List Row) : Prop where
  own : ∀ r ∈ rs, r.own B w
  apart : rs.Pairwise Apart

/-- a box of so many cells -/
def boxRow (b : Nat) (t : TypeId) (cs : List Value) : Row := ⟨t, cs.length, .slice (some ⟨b, 0, none⟩) 1 1, 1, cs⟩
def arcRow (v : Value) (l : List (Int × Int)) : Row := ⟨76, 2, v, l.length, l.flatMap arcL⟩
def plRow (v : Value) (l : List Pl) : Row := ⟨57, 2, v, l.length, l.flatMap plL⟩
def trRow (v : Value) (l : List (Tr × Value × Value × Value)) : Row := ⟨79, 6, v, l.length, l.flatMap trL⟩

section
variable {B : Nat} {w w' : World} {r r' : Row} {rs pre post : List Row}

theorem Row.lt (h : r.own B w) {k : Nat} (hk : r.v.ownBlock = some k) : B ≤ k ∧ k < w.heap.size := World.ownsRow.lt h k hk

theorem AllOwn.nil (B : Nat) (w : World) : AllOwn B w [] := ⟨(fun _ h => by cases h), List.Pairwise.nil⟩

theorem AllOwn.swap (h : AllOwn B w (pre ++ r :: post)) (hk : Kept (fun k => r.v.ownBlock = some k) w w') (hr : r'.own B w') (hf : r'.v.ownBlock = r.v.ownBlock ∨ ∃ k, r'.v.ownBlock = some k ∧ w.heap.size ≤ k) :
    AllOwn B w' (pre ++ r' :: post) := by
  have hp := h.apart
  rw [List.pairwise_append, List.pairwise_cons] at hp
  obtain ⟨p1, ⟨p2, p3⟩, p4⟩ := hp
  have hx : ∀ x : Row, x.own B w → Apart x r → x.own B w' := fun x hx ha => ownS hx hk (fun k h1 h2 => ha k h1 h2)
  have hn : ∀ x : Row, x.own B w → Apart x r → Apart x r' := by
    intro x hx ha k h1 h2
    rcases hf with e | ⟨k', e, hk'⟩
    · rw [e] at h2; exact ha k h1 h2
    · rw [e] at h2; injection h2 with h2; have := (Row.lt hx h1).2; omega
  refine ⟨fun x hm => ?_, ?_⟩
  · rw [List.mem_append, List.mem_cons] at hm
    rcases hm with hm | rfl | hm
    · exact hx x (h.own x (by simp [hm])) (p4 x hm r (by simp))
    · exact hr
    · exact hx x (h.own x (by simp [hm])) (p2 x hm).symm
  · rw [List.pairwise_append, List.pairwise_cons]
    refine ⟨p1, ⟨fun x hm => (hn x (h.own x (by simp [hm])) (p2 x hm).symm).symm, p3⟩, fun a ha b hb => ?_⟩
    rw [List.mem_cons] at hb
    rcases hb with rfl | hb
    · exact hn a (h.own a (by simp [ha])) (p4 a ha r (by simp))
    · exact p4 a ha b (by simp [hb])

theorem AllOwn.keep {S : Nat → Prop} (h : AllOwn B w rs) (hk : Kept S w w') (hS : ∀ k, B ≤ k → k < w.heap.size → ¬ S k) : AllOwn B w' rs :=
  ⟨fun x hm => ownS (h.own x hm) hk (fun k hk2 => hS k (Row.lt (h.own x hm) hk2).1 (Row.lt (h.own x hm) hk2).2), h.apart⟩
theorem AllOwn.below (h : AllOwn B w rs) (hb : Below w.heap.size w w') : AllOwn B w' rs := h.keep (S := fun _ => False) (Kept.of_below hb) (fun _ _ _ e => e)
theorem AllOwn.alloc (h : AllOwn B w rs) (o : Obj) : AllOwn B (w.alloc o) rs := h.below ((Below.refl _ _).alloc (Nat.le_refl _) o)
theorem AllOwn.drewN (h : AllOwn B w rs) (n : Nat) : AllOwn B (w.drewN n) rs := h.below ⟨rfl, rfl, rfl, Nat.le_refl _, fun _ _ => rfl⟩

/-- one more that is new -/
theorem AllOwn.add (h : AllOwn B w rs) (hb : Below w.heap.size w w') (hr : r.own B w') (hf : ∀ k, r.v.ownBlock = some k → w.heap.size ≤ k) : AllOwn B w' (rs ++ [r]) := by
  have h2 := h.below hb
  refine ⟨fun x hm => ?_, ?_⟩
  · rw [List.mem_append, List.mem_singleton] at hm
    rcases hm with hm | rfl
    · exact h2.own x hm
    · exact hr
  · rw [List.pairwise_append]
    refine ⟨h.apart, List.pairwise_singleton _ _, fun a ha b hb k h1 h2 => ?_⟩
    rw [List.mem_singleton] at hb
    subst hb
    have := (Row.lt (h.own a ha) h1).2
    have := hf k h2
    omega

theorem AllOwn.sub {rs' : List Row} (h : AllOwn B w rs) (hs : rs'.Sublist rs) : AllOwn B w rs' := ⟨fun x hm => h.own x (hs.subset hm), h.apart.sublist hs⟩
theorem AllOwn.perm {rs' : List Row} (h : AllOwn B w rs) (hs : rs.Perm rs') : AllOwn B w rs' := ⟨fun x hm => h.own x (hs.mem_iff.2 hm), (hs.pairwise_iff (fun {a b} h => h.symm)).1 h.apart⟩
theorem AllOwn.mono {B' : Nat} (h : AllOwn B w rs) (hB : B' ≤ B) : AllOwn B' w rs := ⟨fun x hm => own_mono (h.own x hm) hB, h.apart⟩

/-- a box that is new -/
theorem boxRow.new (B : Nat) (w : World) (t : TypeId) (cs : Array Value) (hB : B ≤ w.heap.size) : (boxRow w.heap.size t cs.toList).own B (w.alloc (.cells cs t)) := by
  have e : cs.toList.take (1 * cs.toList.length) = cs.toList := by rw [Nat.one_mul, List.take_length]
  exact ⟨by simp [boxRow], .inr ⟨w.heap.size, 1, cs, rfl, hB, heap_alloc_new w _, Nat.le_refl _, by unfold maxLen; omega, by simp [boxRow], e⟩⟩

theorem boxRow.cell {b : Nat} {t : TypeId} {cs : List Value} (h : (boxRow b t cs).own B w) {j : Nat} {x : Value} (hj : cs[j]? = some x) : w.cell? ⟨b, j, none⟩ = some x := by
  have := World.ownsRow.cellAt h j (by simp [boxRow]; exact lt_at hj)
  rw [this]; exact hj
theorem boxRow.froz {b : Nat} {t : TypeId} {cs : List Value} (h : (boxRow b t cs).own B w) (j : Nat) : w.frozen? ⟨b, j, none⟩ = false := World.ownsRow.frozenAt h j
theorem boxRow.lt {b : Nat} {t : TypeId} {cs : List Value} (h : (boxRow b t cs).own B w) : B ≤ b ∧ b < w.heap.size := Row.lt h rfl

/-- a cell of a box stored -/
theorem AllOwn.store {b : Nat} {t : TypeId} {cs : List Value} (h : AllOwn B w (pre ++ boxRow b t cs :: post)) (j : Nat) (x : Value) :
    AllOwn B (w.setCell ⟨b, j, none⟩ x) (pre ++ boxRow b t (cs.set j x) :: post) ∧ Kept (fun k => k = b) w (w.setCell ⟨b, j, none⟩ x) := by
  have ho := h.own (boxRow b t cs) (by simp)
  obtain ⟨h1, hg⟩ := World.ownsRow.stored ho j x
  have hk : Kept (fun k => (boxRow b t cs).v.ownBlock = some k) w (w.setCell ⟨b, j, none⟩ x) := (Kept.refl _ w).grown hg (fun k e => by rw [← e]; rfl)
  refine ⟨h.swap hk (r' := boxRow b t (cs.set j x)) ?_ (.inl rfl), hk.mono (fun k _ e => by injection e with e; exact e.symm)⟩
  have e : (cs.set j x).length = cs.length := List.length_set
  show World.ownsRow _ B t (cs.set j x).length _ 1 (cs.set j x)
  rw [e]
  exact h1
end
end Go.Proofs.Ytpbbdnicafifpaa

/-! ## MakeA -/
namespace Go.Proofs.Ytpbbdnicafifpaa
open Go.RowKit
set_option linter.unusedVariables false

def tokL1 (t : Nat) : List Value := [.int .u8 (t : Int)]
def acL (x : Ac) : List Value := [.int .u8 (x.d : Int), .int .u8 (x.p : Int), .int .u8 (x.i : Int), .int .u8 (x.j : Int), .int .u8 (x.n : Int), .int .u8 (x.o : Int), .int .u8 (x.q : Int)]
theorem tokL1_len (t : Nat) : (tokL1 t).length = 1 := rfl
theorem acL_len (x : Ac) : (acL x).length = 7 := rfl

/-- a draft -/
structure DraftAt (w : World) (vt va : Value) (ts : List Nat) (acs : List Ac) : Prop where
  toks : RowAt 1 w vt ts.length (ts.flatMap tokL1)
  acts : RowAt 7 w va acs.length (acs.flatMap acL)
  small : ∀ t ∈ ts, t < 256
  ok : AllOk acs

theorem DraftAt.below {w w' : World} {vt va : Value} {ts : List Nat} {acs : List Ac} (h : DraftAt w vt va ts acs) (hb : Below w.heap.size w w') : DraftAt w' vt va ts acs :=
  ⟨h.toks.below hb, h.acts.below hb, h.small, h.ok⟩

theorem DraftAt.tok {w : World} {a : Option Addr} {n cap : Nat} {va : Value} {ts : List Nat} {acs : List Ac} (h : DraftAt w (.slice a n cap) va ts acs) {i t : Nat} (hi : ts[i]? = some t) :
    ∃ b off, a = some ⟨b, off, none⟩ ∧ b < w.heap.size ∧ w.cell? ⟨b, off + i, none⟩ = some (.int .u8 (t : Int)) ∧ t < 256 := by
  obtain ⟨b, off, e, hb, hc⟩ := RowAt.elem tokL1_len h.toks hi
  exact ⟨b, off, e, hb, by have := hc 0 _ rfl; simpa using this, h.small t (List.mem_of_getElem? hi)⟩

theorem DraftAt.act {w : World} {a : Option Addr} {n cap : Nat} {vt : Value} {ts : List Nat} {acs : List Ac} (h : DraftAt w vt (.slice a n cap) ts acs) {i : Nat} {x : Ac} (hi : acs[i]? = some x) :
    ∃ b off, a = some ⟨b, off, none⟩ ∧ b < w.heap.size ∧ w.cell? ⟨b, off + i * 7, none⟩ = some (.int .u8 (x.d : Int)) ∧ w.cell? ⟨b, off + i * 7 + 1, none⟩ = some (.int .u8 (x.p : Int)) ∧ w.cell? ⟨b, off + i * 7 + 2, none⟩ = some (.int .u8 (x.i : Int)) ∧
      w.cell? ⟨b, off + i * 7 + 3, none⟩ = some (.int .u8 (x.j : Int)) ∧ w.cell? ⟨b, off + i * 7 + 4, none⟩ = some (.int .u8 (x.n : Int)) ∧ w.cell? ⟨b, off + i * 7 + 5, none⟩ = some (.int .u8 (x.o : Int)) ∧ w.cell? ⟨b, off + i * 7 + 6, none⟩ = some (.int .u8 (x.q : Int)) ∧ x.ok := by
  obtain ⟨b, off, e, hb, hc⟩ := RowAt.elem acL_len h.acts hi
  exact ⟨b, off, e, hb, hc 0 _ rfl, hc 1 _ rfl, hc 2 _ rfl, hc 3 _ rfl, hc 4 _ rfl, hc 5 _ rfl, hc 6 _ rfl, h.ok x (List.mem_of_getElem? hi)⟩

/-- a byte as a text -/
theorem run_conv1 (w : World) (k c : Nat) (h : c + k < 256) : (convert 22 9 (.slice (some ⟨w.heap.size, 0, none⟩) 1 1)).run Try.prog (w.alloc (.cells #[.int .u8 ((c : Int) + (k : Int))] 5)) = .ok (.string (bs [UInt8.ofNat (c + k)])) (w.alloc (.cells #[.int .u8 ((c : Int) + (k : Int))] 5)) := by
  have hz : zi (UInt8.ofNat (c + k)) = (c : Int) + (k : Int) := by
    unfold zi
    have : (UInt8.ofNat (c + k)).toNat = c + k := by simp; omega
    rw [this]; omega
  generalize UInt8.ofNat (c + k) = y at hz ⊢
  have hcv := (BytesAt.str (w := w.alloc (.cells #[.int .u8 (zi y)] 5)) (A := some ⟨w.heap.size, 0, none⟩) (n := 1) (l := [y]) ⟨rfl, fun _ => ⟨_, _, rfl, by simp, fun i x hx => by
    rw [Nat.zero_add, cell_marked]
    match i, hx with
    | 0, hx => simp at hx; subst hx; rfl⟩⟩ 1)
  rw [hz] at hcv
  exact hcv

theorem nameP_cat (k : Nat) : ({ data := #[112] } : ByteArray) ++ bs [UInt8.ofNat (97 + k)] = nameP k := by
  apply ByteArray.ext; rw [ByteArray.data_append]; simp [bs, nameP]
theorem nameT_cat (k : Nat) : ({ data := #[116] } : ByteArray) ++ bs [UInt8.ofNat (48 + k)] ++ { data := #[46, 120] } = nameT k := by
  apply ByteArray.ext; rw [ByteArray.data_append, ByteArray.data_append]; simp [bs, nameT]
theorem u8_in (z : Int) (h0 : 0 ≤ z) (h1 : z < 256) : IntKind.u8.wrap z = z := by
  simp [IntKind.wrap, IntKind.bits, IntKind.signed]; omega

/-- the net's rows -/
def arcRows (x : Tr × Value × Value × Value) : List Row := [arcRow x.2.1 x.1.inn, arcRow x.2.2.1 x.1.nt, arcRow x.2.2.2 x.1.out]
def netRows (vp vt : Value) (ps : List Pl) (l : List (Tr × Value × Value × Value)) : List Row := plRow vp ps :: trRow vt l :: l.flatMap arcRows
/-- a net of the call's own: all its rows are apart -/
def NetOwn (B : Nat) (w : World) (vp vt : Value) (n : Nt) : Prop := ∃ l, l.map (·.1) = n.trans ∧ AllOwn B w (netRows vp vt n.places l)

theorem NetOwn.at_ {B : Nat} {w : World} {vp vt : Value} {n : Nt} (h : NetOwn B w vp vt n) : NetAt w vp vt n := by
  obtain ⟨l, hl, h⟩ := h
  refine ⟨RowAt.of_own (h.own (plRow vp n.places) (by simp [netRows])), l, hl, RowAt.of_own (h.own (trRow vt l) (by simp [netRows])), fun x hx => ?_⟩
  have hm : ∀ r ∈ arcRows x, r ∈ netRows vp vt n.places l := fun r hr => by
    unfold netRows
    rw [List.mem_cons, List.mem_cons]
    exact .inr (.inr (List.mem_flatMap.2 ⟨x, hx, hr⟩))
  exact ⟨RowAt.of_own (h.own (arcRow x.2.1 x.1.inn) (hm _ (by simp [arcRows]))), RowAt.of_own (h.own (arcRow x.2.2.1 x.1.nt) (hm _ (by simp [arcRows]))), RowAt.of_own (h.own (arcRow x.2.2.2 x.1.out) (hm _ (by simp [arcRows])))⟩

/-- what Make has: the draft's box, the answer's, the net's; the net's rows -/
structure InMk (w wr : World) (D0 D1 vp vt : Value) (ps : List Pl) (l : List (Tr × Value × Value × Value)) (more : List Row) : Prop where
  all : AllOwn w.heap.size wr (boxRow w.heap.size 25 [D0, D1] :: boxRow (w.heap.size + 1) 31 [.slice none 0 0, .slice none 0 0] :: boxRow (w.heap.size + 2) 31 [vp, vt] :: (netRows vp vt ps l ++ more))
  below : Below w.heap.size w wr

theorem ownNil (B e size : Nat) (w : World) : w.ownsRow B e size (.slice none 0 0) 0 [] := World.ownsRow_nil _ _ _ _

theorem InMk.start (w : World) (D0 D1 : Value) : InMk w (((w.alloc (.cells #[D0, D1] 25)).alloc (.cells #[.slice none 0 0, .slice none 0 0] 31)).alloc (.cells #[.slice none 0 0, .slice none 0 0] 31)) D0 D1 (.slice none 0 0) (.slice none 0 0) [] [] [] := by
  have hs1 : (w.alloc (.cells #[D0, D1] 25)).heap.size = w.heap.size + 1 := by simp
  have hs2 : ((w.alloc (.cells #[D0, D1] 25)).alloc (.cells #[.slice none 0 0, .slice none 0 0] 31)).heap.size = w.heap.size + 2 := by simp
  have h1 := (AllOwn.nil w.heap.size w).add ((Below.refl _ w).alloc (Nat.le_refl _) _) (boxRow.new w.heap.size w 25 #[D0, D1] (Nat.le_refl _)) (fun k e => by injection e with e; subst e; exact Nat.le_refl _)
  have h2 := h1.add ((Below.refl _ _).alloc (Nat.le_refl _) _) (boxRow.new w.heap.size _ 31 #[.slice none 0 0, .slice none 0 0] (by simp <;> omega)) (fun k e => by injection e with e; subst e; exact Nat.le_refl _)
  have h3 := h2.add ((Below.refl _ _).alloc (Nat.le_refl _) _) (boxRow.new w.heap.size _ 31 #[.slice none 0 0, .slice none 0 0] (by simp <;> omega)) (fun k e => by injection e with e; subst e; exact Nat.le_refl _)
  have h4 := h3.add (Below.refl _ _) (r := plRow (.slice none 0 0) []) (ownNil _ _ _ _) (fun k e => by cases e)
  have h5 := h4.add (Below.refl _ _) (r := trRow (.slice none 0 0) []) (ownNil _ _ _ _) (fun k e => by cases e)
  rw [hs1, hs2] at h5
  exact ⟨h5, (((Below.refl _ w).alloc (Nat.le_refl _) _).alloc (by simp) _).alloc (by simp; omega) _⟩
end Go.Proofs.Ytpbbdnicafifpaa

/-! ## MakeL -/
namespace Go.Proofs.Ytpbbdnicafifpaa
open Go.RowKit
set_option linter.unusedVariables false

theorem own_form3 {w : World} {B e n size : Nat} {v : Value} {xs : List Value} (h : w.ownsRow B e size v n xs) : ∃ a m c, v = .slice a m c := by
  obtain ⟨a, c, h⟩ := own_form h; exact ⟨a, n, c, h⟩

section
variable {w wr : World} {D0 D1 vp vt : Value} {ps : List Pl} {l : List (Tr × Value × Value × Value)} {more : List Row}

theorem InMk.d0 (h : InMk w wr D0 D1 vp vt ps l more) : wr.cell? ⟨w.heap.size, 0, none⟩ = some D0 := boxRow.cell (h.all.own (boxRow w.heap.size 25 [D0, D1]) (by simp)) rfl
theorem InMk.d1 (h : InMk w wr D0 D1 vp vt ps l more) : wr.cell? ⟨w.heap.size, 1, none⟩ = some D1 := boxRow.cell (h.all.own (boxRow w.heap.size 25 [D0, D1]) (by simp)) rfl
theorem InMk.bn (h : InMk w wr D0 D1 vp vt ps l more) : (boxRow (w.heap.size + 2) 31 [vp, vt]).own w.heap.size wr := h.all.own _ (by simp)
theorem InMk.n0 (h : InMk w wr D0 D1 vp vt ps l more) : wr.cell? ⟨w.heap.size + 2, 0, none⟩ = some vp := boxRow.cell h.bn rfl
theorem InMk.n1 (h : InMk w wr D0 D1 vp vt ps l more) : wr.cell? ⟨w.heap.size + 2, 1, none⟩ = some vt := boxRow.cell h.bn rfl
theorem InMk.sz (h : InMk w wr D0 D1 vp vt ps l more) : w.heap.size + 2 < wr.heap.size := (boxRow.lt h.bn).2
theorem InMk.pl (h : InMk w wr D0 D1 vp vt ps l more) : OwnP w.heap.size wr vp ps := h.all.own (plRow vp ps) (by simp [netRows])
theorem InMk.go {w' : World} (h : InMk w wr D0 D1 vp vt ps l more) (hb : Below wr.heap.size wr w') : InMk w w' D0 D1 vp vt ps l more := ⟨h.all.below hb, h.below.trans (hb.mono h.below.size)⟩

/-- a place put at the end, and stored into the net -/
theorem InMk.pushP {W w2 : World} {v2 : Value} {x : Pl} (h : InMk w wr D0 D1 vp vt ps l more) (hb : Below wr.heap.size wr W) (h2 : OwnP w.heap.size w2 v2 (ps ++ [x])) (hk : Kept (fun k => vp.ownBlock = some k) W w2) (hv : v2.ownBlock = vp.ownBlock ∨ v2.ownBlock = some (W.heap.size + 1)) :
    InMk w (w2.setCell ⟨w.heap.size + 2, 0, none⟩ v2) D0 D1 v2 vt (ps ++ [x]) l more ∧ w2.cell? ⟨w.heap.size + 2, 0, none⟩ = some vp ∧ w2.frozen? ⟨w.heap.size + 2, 0, none⟩ = false ∧ w.heap.size + 2 < w2.heap.size := by
  have h1 := (h.go hb)
  have a1 : AllOwn w.heap.size w2 ([boxRow w.heap.size 25 [D0, D1], boxRow (w.heap.size + 1) 31 [.slice none 0 0, .slice none 0 0], boxRow (w.heap.size + 2) 31 [vp, vt]] ++ plRow v2 (ps ++ [x]) :: (trRow vt l :: l.flatMap arcRows ++ more)) :=
    AllOwn.swap (pre := [boxRow w.heap.size 25 [D0, D1], boxRow (w.heap.size + 1) 31 [.slice none 0 0, .slice none 0 0], boxRow (w.heap.size + 2) 31 [vp, vt]]) (r := plRow vp ps) (post := trRow vt l :: l.flatMap arcRows ++ more) h1.all hk h2 (by
      rcases hv with e | e
      · exact .inl e
      · exact .inr ⟨_, e, by omega⟩)
  have a2 := AllOwn.store (pre := [boxRow w.heap.size 25 [D0, D1], boxRow (w.heap.size + 1) 31 [.slice none 0 0, .slice none 0 0]]) (b := w.heap.size + 2) (t := 31) (cs := [vp, vt]) (post := plRow v2 (ps ++ [x]) :: (trRow vt l :: l.flatMap arcRows ++ more)) a1 0 v2
  have hb2 := a1.own (boxRow (w.heap.size + 2) 31 [vp, vt]) (by simp)
  refine ⟨⟨a2.1, ?_⟩, boxRow.cell hb2 rfl, boxRow.froz hb2 0, (boxRow.lt hb2).2⟩
  have hk2 : Kept (fun k => w.heap.size ≤ k) W (w2.setCell ⟨w.heap.size + 2, 0, none⟩ v2) := (hk.mono (fun k _ e => (Row.lt (r := plRow vp ps) h1.pl e).1)).trans (a2.2.mono (fun k _ e => by omega))
  exact h1.below.trans (hk2.below (fun k hk => hk) h1.below.size)
end


/-- a transition under way: its numbers' box, its own, its three lists -/
def tMore (bx bt : Nat) (x : Ac) (nm : ByteArray) (d p : Int) (v1 v2 v3 : Value) (l1 l2 l3 : List (Int × Int)) : List Row :=
  [boxRow bx 89 (acL x), boxRow bt 79 [.string nm, .int .i64 d, .int .i64 p, v1, v2, v3], arcRow v1 l1, arcRow v2 l2, arcRow v3 l3]

/-- what the cells of both boxes hold -/
structure TCells (wr : World) (bx bt : Nat) (x : Ac) (nm : ByteArray) (d p : Int) (v1 v2 v3 : Value) : Prop where
  x0 : wr.cell? ⟨bx, 0, none⟩ = some (.int .u8 (x.d : Int))
  x1 : wr.cell? ⟨bx, 1, none⟩ = some (.int .u8 (x.p : Int))
  x2 : wr.cell? ⟨bx, 2, none⟩ = some (.int .u8 (x.i : Int))
  x3 : wr.cell? ⟨bx, 3, none⟩ = some (.int .u8 (x.j : Int))
  x4 : wr.cell? ⟨bx, 4, none⟩ = some (.int .u8 (x.n : Int))
  x5 : wr.cell? ⟨bx, 5, none⟩ = some (.int .u8 (x.o : Int))
  x6 : wr.cell? ⟨bx, 6, none⟩ = some (.int .u8 (x.q : Int))
  t0 : wr.cell? ⟨bt, 0, none⟩ = some (.string nm)
  t1 : wr.cell? ⟨bt, 1, none⟩ = some (.int .i64 d)
  t2 : wr.cell? ⟨bt, 2, none⟩ = some (.int .i64 p)
  t3 : wr.cell? ⟨bt, 3, none⟩ = some v1
  t4 : wr.cell? ⟨bt, 4, none⟩ = some v2
  t5 : wr.cell? ⟨bt, 5, none⟩ = some v3
  fz : ∀ j, wr.frozen? ⟨bt, j, none⟩ = false
  bxl : bx < wr.heap.size
  btl : bt < wr.heap.size

section
variable {w wr : World} {D0 D1 vp vt : Value} {ps : List Pl} {l : List (Tr × Value × Value × Value)} {bx bt : Nat} {x : Ac} {nm : ByteArray} {d p : Int} {v1 v2 v3 : Value} {l1 l2 l3 : List (Int × Int)}

theorem InMk.cells (h : InMk w wr D0 D1 vp vt ps l (tMore bx bt x nm d p v1 v2 v3 l1 l2 l3)) : TCells wr bx bt x nm d p v1 v2 v3 := by
  have h1 := h.all.own (boxRow bx 89 (acL x)) (by simp [tMore])
  have h2 := h.all.own (boxRow bt 79 [.string nm, .int .i64 d, .int .i64 p, v1, v2, v3]) (by simp [tMore])
  exact ⟨boxRow.cell h1 rfl, boxRow.cell h1 rfl, boxRow.cell h1 rfl, boxRow.cell h1 rfl, boxRow.cell h1 rfl, boxRow.cell h1 rfl, boxRow.cell h1 rfl, boxRow.cell h2 rfl, boxRow.cell h2 rfl, boxRow.cell h2 rfl, boxRow.cell h2 rfl, boxRow.cell h2 rfl, boxRow.cell h2 rfl, boxRow.froz h2, (boxRow.lt h1).2, (boxRow.lt h2).2⟩

theorem InMk.a1 (h : InMk w wr D0 D1 vp vt ps l (tMore bx bt x nm d p v1 v2 v3 l1 l2 l3)) : OwnA w.heap.size wr v1 l1 := h.all.own (arcRow v1 l1) (by simp [tMore])
theorem InMk.a2 (h : InMk w wr D0 D1 vp vt ps l (tMore bx bt x nm d p v1 v2 v3 l1 l2 l3)) : OwnA w.heap.size wr v2 l2 := h.all.own (arcRow v2 l2) (by simp [tMore])
theorem InMk.a3 (h : InMk w wr D0 D1 vp vt ps l (tMore bx bt x nm d p v1 v2 v3 l1 l2 l3)) : OwnA w.heap.size wr v3 l3 := h.all.own (arcRow v3 l3) (by simp [tMore])

/-- a cell of the transition's box is stored -/
theorem InMk.setT {j : Nat} {u : Value} {r1 r2 r3 : Row} {cs : List Value} {L : List Row} (h : AllOwn w.heap.size wr (L ++ [boxRow bx 89 (acL x), boxRow bt 79 cs, r1, r2, r3])) (hb : Below w.heap.size w wr) :
    AllOwn w.heap.size (wr.setCell ⟨bt, j, none⟩ u) (L ++ [boxRow bx 89 (acL x), boxRow bt 79 (cs.set j u), r1, r2, r3]) ∧ Below w.heap.size w (wr.setCell ⟨bt, j, none⟩ u) := by
  have e : ∀ c : List Value, L ++ [boxRow bx 89 (acL x), boxRow bt 79 c, r1, r2, r3] = (L ++ [boxRow bx 89 (acL x)]) ++ boxRow bt 79 c :: [r1, r2, r3] := fun c => by simp
  rw [e] at h
  have hbt := (boxRow.lt (h.own (boxRow bt 79 cs) (by simp))).1
  obtain ⟨h1, h2⟩ := AllOwn.store h j u
  rw [e]
  exact ⟨h1, hb.trans (h2.below (fun k hk => by omega) hb.size)⟩

theorem InMk.put1 {w2 : World} {u : Value} {l' : List (Int × Int)} (h : InMk w wr D0 D1 vp vt ps l (tMore bx bt x nm d p v1 v2 v3 l1 l2 l3)) (hp : PutOut w.heap.size wr w2 v1 u l') :
    InMk w (w2.setCell ⟨bt, 3, none⟩ u) D0 D1 vp vt ps l (tMore bx bt x nm d p u v2 v3 l' l2 l3) ∧ w2.cell? ⟨bt, 3, none⟩ = some v1 ∧ w2.frozen? ⟨bt, 3, none⟩ = false ∧ bt < w2.heap.size := by
  have e : ∀ r : Row, (boxRow w.heap.size 25 [D0, D1] :: boxRow (w.heap.size + 1) 31 [.slice none 0 0, .slice none 0 0] :: boxRow (w.heap.size + 2) 31 [vp, vt] :: (netRows vp vt ps l ++ [boxRow bx 89 (acL x), boxRow bt 79 [.string nm, .int .i64 d, .int .i64 p, v1, v2, v3], r, arcRow v2 l2, arcRow v3 l3])) =
      (boxRow w.heap.size 25 [D0, D1] :: boxRow (w.heap.size + 1) 31 [.slice none 0 0, .slice none 0 0] :: boxRow (w.heap.size + 2) 31 [vp, vt] :: (netRows vp vt ps l ++ [boxRow bx 89 (acL x), boxRow bt 79 [.string nm, .int .i64 d, .int .i64 p, v1, v2, v3]])) ++ r :: [arcRow v2 l2, arcRow v3 l3] := fun r => by simp
  have ha := h.all
  unfold tMore at ha
  rw [e] at ha
  have h1 := AllOwn.swap ha hp.kept (r' := arcRow u l') hp.own hp.fresh
  have hbt := h1.own (boxRow bt 79 [.string nm, .int .i64 d, .int .i64 p, v1, v2, v3]) (by simp)
  rw [← e] at h1
  have hbel : Below w.heap.size w w2 := h.below.trans (hp.kept.below (fun k hk => (Row.lt (r := arcRow v1 l1) h.a1 hk).1) h.below.size)
  have h2 := InMk.setT (L := boxRow w.heap.size 25 [D0, D1] :: boxRow (w.heap.size + 1) 31 [.slice none 0 0, .slice none 0 0] :: boxRow (w.heap.size + 2) 31 [vp, vt] :: netRows vp vt ps l) (j := 3) (u := u) h1 hbel
  exact ⟨⟨h2.1, h2.2⟩, boxRow.cell hbt rfl, boxRow.froz hbt 3, (boxRow.lt hbt).2⟩

theorem InMk.put2 {w2 : World} {u : Value} {l' : List (Int × Int)} (h : InMk w wr D0 D1 vp vt ps l (tMore bx bt x nm d p v1 v2 v3 l1 l2 l3)) (hp : PutOut w.heap.size wr w2 v2 u l') :
    InMk w (w2.setCell ⟨bt, 4, none⟩ u) D0 D1 vp vt ps l (tMore bx bt x nm d p v1 u v3 l1 l' l3) ∧ w2.cell? ⟨bt, 4, none⟩ = some v2 ∧ w2.frozen? ⟨bt, 4, none⟩ = false ∧ bt < w2.heap.size := by
  have e : ∀ r : Row, (boxRow w.heap.size 25 [D0, D1] :: boxRow (w.heap.size + 1) 31 [.slice none 0 0, .slice none 0 0] :: boxRow (w.heap.size + 2) 31 [vp, vt] :: (netRows vp vt ps l ++ [boxRow bx 89 (acL x), boxRow bt 79 [.string nm, .int .i64 d, .int .i64 p, v1, v2, v3], arcRow v1 l1, r, arcRow v3 l3])) =
      (boxRow w.heap.size 25 [D0, D1] :: boxRow (w.heap.size + 1) 31 [.slice none 0 0, .slice none 0 0] :: boxRow (w.heap.size + 2) 31 [vp, vt] :: (netRows vp vt ps l ++ [boxRow bx 89 (acL x), boxRow bt 79 [.string nm, .int .i64 d, .int .i64 p, v1, v2, v3], arcRow v1 l1])) ++ r :: [arcRow v3 l3] := fun r => by simp
  have ha := h.all
  unfold tMore at ha
  rw [e] at ha
  have h1 := AllOwn.swap ha hp.kept (r' := arcRow u l') hp.own hp.fresh
  have hbt := h1.own (boxRow bt 79 [.string nm, .int .i64 d, .int .i64 p, v1, v2, v3]) (by simp)
  rw [← e] at h1
  have hbel : Below w.heap.size w w2 := h.below.trans (hp.kept.below (fun k hk => (Row.lt (r := arcRow v2 l2) h.a2 hk).1) h.below.size)
  have h2 := InMk.setT (L := boxRow w.heap.size 25 [D0, D1] :: boxRow (w.heap.size + 1) 31 [.slice none 0 0, .slice none 0 0] :: boxRow (w.heap.size + 2) 31 [vp, vt] :: netRows vp vt ps l) (j := 4) (u := u) h1 hbel
  exact ⟨⟨h2.1, h2.2⟩, boxRow.cell hbt rfl, boxRow.froz hbt 4, (boxRow.lt hbt).2⟩

theorem InMk.put3 {w2 : World} {u : Value} {l' : List (Int × Int)} (h : InMk w wr D0 D1 vp vt ps l (tMore bx bt x nm d p v1 v2 v3 l1 l2 l3)) (hp : PutOut w.heap.size wr w2 v3 u l') :
    InMk w (w2.setCell ⟨bt, 5, none⟩ u) D0 D1 vp vt ps l (tMore bx bt x nm d p v1 v2 u l1 l2 l') ∧ w2.cell? ⟨bt, 5, none⟩ = some v3 ∧ w2.frozen? ⟨bt, 5, none⟩ = false ∧ bt < w2.heap.size := by
  have e : ∀ r : Row, (boxRow w.heap.size 25 [D0, D1] :: boxRow (w.heap.size + 1) 31 [.slice none 0 0, .slice none 0 0] :: boxRow (w.heap.size + 2) 31 [vp, vt] :: (netRows vp vt ps l ++ [boxRow bx 89 (acL x), boxRow bt 79 [.string nm, .int .i64 d, .int .i64 p, v1, v2, v3], arcRow v1 l1, arcRow v2 l2, r])) =
      (boxRow w.heap.size 25 [D0, D1] :: boxRow (w.heap.size + 1) 31 [.slice none 0 0, .slice none 0 0] :: boxRow (w.heap.size + 2) 31 [vp, vt] :: (netRows vp vt ps l ++ [boxRow bx 89 (acL x), boxRow bt 79 [.string nm, .int .i64 d, .int .i64 p, v1, v2, v3], arcRow v1 l1, arcRow v2 l2])) ++ r :: [] := fun r => by simp
  have ha := h.all
  unfold tMore at ha
  rw [e] at ha
  have h1 := AllOwn.swap ha hp.kept (r' := arcRow u l') hp.own hp.fresh
  have hbt := h1.own (boxRow bt 79 [.string nm, .int .i64 d, .int .i64 p, v1, v2, v3]) (by simp)
  rw [← e] at h1
  have hbel : Below w.heap.size w w2 := h.below.trans (hp.kept.below (fun k hk => (Row.lt (r := arcRow v3 l3) h.a3 hk).1) h.below.size)
  have h2 := InMk.setT (L := boxRow w.heap.size 25 [D0, D1] :: boxRow (w.heap.size + 1) 31 [.slice none 0 0, .slice none 0 0] :: boxRow (w.heap.size + 2) 31 [vp, vt] :: netRows vp vt ps l) (j := 5) (u := u) h1 hbel
  exact ⟨⟨h2.1, h2.2⟩, boxRow.cell hbt rfl, boxRow.froz hbt 5, (boxRow.lt hbt).2⟩

theorem InMk.delay (h : InMk w wr D0 D1 vp vt ps l (tMore bx bt x nm d p v1 v2 v3 l1 l2 l3)) (d' : Int) : InMk w (wr.setCell ⟨bt, 1, none⟩ (.int .i64 d')) D0 D1 vp vt ps l (tMore bx bt x nm d' p v1 v2 v3 l1 l2 l3) := by
  have h2 := InMk.setT (L := boxRow w.heap.size 25 [D0, D1] :: boxRow (w.heap.size + 1) 31 [.slice none 0 0, .slice none 0 0] :: boxRow (w.heap.size + 2) 31 [vp, vt] :: netRows vp vt ps l) (j := 1) (u := .int .i64 d') h.all h.below
  exact ⟨h2.1, h2.2⟩

/-- a transition begins -/
theorem InMk.begin {o : Obj} (h : InMk w wr D0 D1 vp vt ps l []) (x : Ac) (nm : ByteArray) (d p : Int) :
    InMk w (((wr.alloc (.cells #[.int .u8 (x.d : Int), .int .u8 (x.p : Int), .int .u8 (x.i : Int), .int .u8 (x.j : Int), .int .u8 (x.n : Int), .int .u8 (x.o : Int), .int .u8 (x.q : Int)] 89)).alloc o).alloc (.cells #[.string nm, .int .i64 d, .int .i64 p, .slice none 0 0, .slice none 0 0, .slice none 0 0] 79)) D0 D1 vp vt ps l
      (tMore wr.heap.size (wr.heap.size + 2) x nm d p (.slice none 0 0) (.slice none 0 0) (.slice none 0 0) [] [] []) := by
  have hB := h.below.size
  have h1 := h.all.add ((Below.refl _ wr).alloc (Nat.le_refl _) _) (boxRow.new w.heap.size wr 89 #[.int .u8 (x.d : Int), .int .u8 (x.p : Int), .int .u8 (x.i : Int), .int .u8 (x.j : Int), .int .u8 (x.n : Int), .int .u8 (x.o : Int), .int .u8 (x.q : Int)] hB) (fun k e => by injection e with e; subst e; exact Nat.le_refl _)
  have h2 := (h1.alloc o).add ((Below.refl _ _).alloc (Nat.le_refl _) _) (boxRow.new w.heap.size _ 79 #[.string nm, .int .i64 d, .int .i64 p, .slice none 0 0, .slice none 0 0, .slice none 0 0] (by simp; omega)) (fun k e => by injection e with e; subst e; exact Nat.le_refl _)
  have h3 := ((h2.add (Below.refl _ _) (r := arcRow (.slice none 0 0) []) (ownNil _ _ _ _) (fun k e => by cases e)).add (Below.refl _ _) (r := arcRow (.slice none 0 0) []) (ownNil _ _ _ _) (fun k e => by cases e)).add (Below.refl _ _) (r := arcRow (.slice none 0 0) []) (ownNil _ _ _ _) (fun k e => by cases e)
  refine ⟨?_, ((h.below.alloc hB _).alloc (by simp; omega) _).alloc (by simp; omega) _⟩
  have hs : ((wr.alloc (.cells #[.int .u8 (x.d : Int), .int .u8 (x.p : Int), .int .u8 (x.i : Int), .int .u8 (x.j : Int), .int .u8 (x.n : Int), .int .u8 (x.o : Int), .int .u8 (x.q : Int)] 89)).alloc o).heap.size = wr.heap.size + 2 := by simp
  rw [hs] at h3
  simp only [List.append_nil, List.cons_append, List.append_assoc, List.nil_append] at h3
  exact h3
end


section
variable {w wr : World} {D0 D1 vp vt : Value} {ps : List Pl} {l : List (Tr × Value × Value × Value)} {more : List Row}
theorem InMk.tr (h : InMk w wr D0 D1 vp vt ps l more) : OwnT w.heap.size wr vt l := h.all.own (trRow vt l) (by simp [netRows])
theorem InMk.br (h : InMk w wr D0 D1 vp vt ps l more) : (boxRow (w.heap.size + 1) 31 [.slice none 0 0, .slice none 0 0]).own w.heap.size wr := h.all.own _ (by simp)
theorem InMk.r0 (h : InMk w wr D0 D1 vp vt ps l more) : wr.cell? ⟨w.heap.size + 1, 0, none⟩ = some (.slice none 0 0) := boxRow.cell h.br rfl
theorem InMk.r1 (h : InMk w wr D0 D1 vp vt ps l more) : wr.cell? ⟨w.heap.size + 1, 1, none⟩ = some (.slice none 0 0) := boxRow.cell h.br rfl
theorem InMk.rf (h : InMk w wr D0 D1 vp vt ps l more) (j : Nat) : wr.frozen? ⟨w.heap.size + 1, j, none⟩ = false := boxRow.froz h.br j

theorem InMk.finish (h : InMk w wr D0 D1 vp vt ps l []) : AllOwn w.heap.size ((wr.setCell ⟨w.heap.size + 1, 0, none⟩ vp).setCell ⟨w.heap.size + 1, 1, none⟩ vt) (netRows vp vt ps l) ∧ Below w.heap.size w ((wr.setCell ⟨w.heap.size + 1, 0, none⟩ vp).setCell ⟨w.heap.size + 1, 1, none⟩ vt) ∧
    ((wr.setCell ⟨w.heap.size + 1, 0, none⟩ vp).setCell ⟨w.heap.size + 1, 1, none⟩ vt).cell? ⟨w.heap.size + 1, 0, none⟩ = some vp ∧ ((wr.setCell ⟨w.heap.size + 1, 0, none⟩ vp).setCell ⟨w.heap.size + 1, 1, none⟩ vt).cell? ⟨w.heap.size + 1, 1, none⟩ = some vt := by
  have h1 := AllOwn.store (pre := [boxRow w.heap.size 25 [D0, D1]]) (b := w.heap.size + 1) (t := 31) (cs := [.slice none 0 0, .slice none 0 0]) (post := boxRow (w.heap.size + 2) 31 [vp, vt] :: (netRows vp vt ps l ++ [])) h.all 0 vp
  have h2 := AllOwn.store (pre := [boxRow w.heap.size 25 [D0, D1]]) (b := w.heap.size + 1) (t := 31) (post := boxRow (w.heap.size + 2) 31 [vp, vt] :: (netRows vp vt ps l ++ [])) h1.1 1 vt
  have hb := h2.1.own (boxRow (w.heap.size + 1) 31 [vp, vt]) (List.mem_append_right _ (List.mem_cons_self ..))
  refine ⟨h2.1.sub ?_, h.below.trans ((h1.2.trans h2.2).below (fun k e => by omega) h.below.size), boxRow.cell hb rfl, boxRow.cell hb rfl⟩
  rw [List.append_nil]
  exact ((List.sublist_cons_self _ _).trans (List.sublist_cons_self _ _)).trans (List.sublist_cons_self _ _)
end

section
variable {w wr : World} {D0 D1 vp vt : Value} {ps : List Pl} {l : List (Tr × Value × Value × Value)} {bx bt : Nat} {x : Ac} {nm : ByteArray} {d p : Int} {v1 v2 v3 : Value} {l1 l2 l3 : List (Int × Int)}

/-- the transition put at the end, and stored into the net -/
theorem InMk.pushT {w2 : World} {u : Value} (h : InMk w wr D0 D1 vp vt ps l (tMore bx bt x nm d p v1 v2 v3 l1 l2 l3)) (h2 : OwnT w.heap.size w2 u (l ++ [(⟨nm, d, p, l1, l2, l3⟩, v1, v2, v3)])) (hk : Kept (fun k => vt.ownBlock = some k) wr w2) (hv : u.ownBlock = vt.ownBlock ∨ u.ownBlock = some (wr.heap.size + 1)) :
    InMk w (w2.setCell ⟨w.heap.size + 2, 1, none⟩ u) D0 D1 vp u ps (l ++ [(⟨nm, d, p, l1, l2, l3⟩, v1, v2, v3)]) [] ∧ w2.cell? ⟨w.heap.size + 2, 1, none⟩ = some vt ∧ w2.frozen? ⟨w.heap.size + 2, 1, none⟩ = false ∧ w.heap.size + 2 < w2.heap.size := by
  have a1 : AllOwn w.heap.size w2 ([boxRow w.heap.size 25 [D0, D1], boxRow (w.heap.size + 1) 31 [.slice none 0 0, .slice none 0 0], boxRow (w.heap.size + 2) 31 [vp, vt], plRow vp ps] ++ trRow u (l ++ [(⟨nm, d, p, l1, l2, l3⟩, v1, v2, v3)]) :: (l.flatMap arcRows ++ tMore bx bt x nm d p v1 v2 v3 l1 l2 l3)) :=
    AllOwn.swap (pre := [boxRow w.heap.size 25 [D0, D1], boxRow (w.heap.size + 1) 31 [.slice none 0 0, .slice none 0 0], boxRow (w.heap.size + 2) 31 [vp, vt], plRow vp ps]) (r := trRow vt l) (post := l.flatMap arcRows ++ tMore bx bt x nm d p v1 v2 v3 l1 l2 l3) h.all hk h2 (by
      rcases hv with e | e
      · exact .inl e
      · exact .inr ⟨_, e, by omega⟩)
  have a2 := AllOwn.store (pre := [boxRow w.heap.size 25 [D0, D1], boxRow (w.heap.size + 1) 31 [.slice none 0 0, .slice none 0 0]]) (b := w.heap.size + 2) (t := 31) (cs := [vp, vt]) (post := plRow vp ps :: trRow u (l ++ [(⟨nm, d, p, l1, l2, l3⟩, v1, v2, v3)]) :: (l.flatMap arcRows ++ tMore bx bt x nm d p v1 v2 v3 l1 l2 l3)) a1 1 u
  have hb2 := a1.own (boxRow (w.heap.size + 2) 31 [vp, vt]) (by simp)
  have hk2 : Kept (fun k => w.heap.size ≤ k) wr (w2.setCell ⟨w.heap.size + 2, 1, none⟩ u) := (hk.mono (fun k _ e => (Row.lt (r := trRow vt l) h.tr e).1)).trans (a2.2.mono (fun k _ e => by omega))
  refine ⟨⟨a2.1.sub ?_, h.below.trans (hk2.below (fun k hk => hk) h.below.size)⟩, boxRow.cell hb2 rfl, boxRow.froz hb2 1, (boxRow.lt hb2).2⟩
  have e : netRows vp u ps (l ++ [(⟨nm, d, p, l1, l2, l3⟩, v1, v2, v3)]) ++ [] = plRow vp ps :: trRow u (l ++ [(⟨nm, d, p, l1, l2, l3⟩, v1, v2, v3)]) :: (l.flatMap arcRows ++ [arcRow v1 l1, arcRow v2 l2, arcRow v3 l3]) := by simp [netRows, arcRows]
  rw [e]
  have hs : [arcRow v1 l1, arcRow v2 l2, arcRow v3 l3].Sublist (tMore bx bt x nm d p v1 v2 v3 l1 l2 l3) := List.sublist_append_right [_, _] _
  exact ((((hs.append_left (l.flatMap arcRows)).cons_cons _).cons_cons _).cons_cons _).cons_cons _ |>.cons_cons _
end

end Go.Proofs.Ytpbbdnicafifpaa
