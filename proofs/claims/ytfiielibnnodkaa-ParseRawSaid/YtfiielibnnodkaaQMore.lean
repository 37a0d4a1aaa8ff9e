/-
  The document's own parser: what its loops come to; a place's name more, a place, a transition more.
  Conditions: none beyond each theorem's own.
-/
import Derived.Test.YtfiielibnnodkaaQArc
namespace Go.Proofs.Ytfiielibnnodkaa
open Go.RowKit
set_option linter.unusedVariables false

/-- the names of the places -/
def numsQ : List ByteArray → List Tok → List ByteArray
  | ns, [] => ns
  | ns, t :: ts => numsQ (if ts ≠ [] ∧ t.kind = 1 ∧ t.text = wPlace ∧ (hd ts).kind = 1 ∧ hasSB ns (bs (hd ts).text) = false then ns ++ [bs (hd ts).text] else ns) ts

/-- a number that may be there -/
def optD (T : List Tok) (s : List UInt8) (D : QD) : Int × QD := if seesD T 3 s D = true then numD T 0 (stepD T D) else (0, D)
def longD (T : List Tok) (b : Bool) (D : QD) : QD := if b = true then failD T 5 D else D

/-- a place -/
def placeQ2 (T : List Tok) (D : QD) : QD := longD T (decide ((stepD T D).n.places.length = 32)) (stepD T D)
def placeQ (T : List Tok) (D : QD) : QD :=
  { (optD T [61] (nameD T (placeQ2 T D))).2 with n := ⟨(optD T [61] (nameD T (placeQ2 T D))).2.n.places ++ [⟨bs ((placeQ2 T D).hd T).text, (optD T [61] (nameD T (placeQ2 T D))).1⟩], (optD T [61] (nameD T (placeQ2 T D))).2.n.trans⟩ }

/-- a transition's head -/
def transQ2 (T : List Tok) (D : QD) : QD := longD T (decide ((stepD T D).n.trans.length = 32)) (stepD T D)
def headQ (T : List Tok) (D : QD) : (ByteArray × Int × Int) × QD :=
  ((bs ((transQ2 T D).hd T).text, (optD T [64] (nameD T (transQ2 T D))).1, (optD T [33] (optD T [64] (nameD T (transQ2 T D))).2).1), signD T [58] (optD T [33] (optD T [64] (nameD T (transQ2 T D))).2).2)

/-- lists under way -/
structure LQ where
  D : QD
  inn : List (Int × Int)
  nt : List (Int × Int)
  out : List (Int × Int)

def commaD (T : List Tok) (k : Nat) (D : QD) : QD := if 0 < k then signD T [44] D else D
def lookQ1 (T : List Tok) (ns : List ByteArray) (k : Nat) (x : LQ) : LQ :=
  if seesD T 3 [126] (commaD T k x.D) = true then ⟨(arcD T ns x.nt (stepD T (commaD T k x.D))).2, x.inn, (arcD T ns x.nt (stepD T (commaD T k x.D))).1, x.out⟩
  else ⟨(arcD T ns x.inn (commaD T k x.D)).2, (arcD T ns x.inn (commaD T k x.D)).1, x.nt, x.out⟩
def outQ1 (T : List Tok) (ns : List ByteArray) (k : Nat) (x : LQ) : LQ := ⟨(arcD T ns x.out (commaD T k x.D)).2, x.inn, x.nt, (arcD T ns x.out (commaD T k x.D)).1⟩
def loopQ (T : List Tok) (stop : List UInt8) (one : Nat → LQ → LQ) : Nat → Nat → LQ → LQ
  | 0, _, x => x
  | f + 1, k, x => if x.D.e = 0 ∧ seesD T 3 stop x.D = false then loopQ T stop one f (k + 1) (one k x) else x
def fuelQ (T : List Tok) (D : QD) : Nat := if D.e = 0 then T.length - D.i + 1 else 1
def listsQ (T : List Tok) (ns : List ByteArray) (D : QD) : LQ :=
  loopQ T [59] (outQ1 T ns) (fuelQ T (signD T [45, 62] (loopQ T [45, 62] (lookQ1 T ns) (fuelQ T D) 0 ⟨D, [], [], []⟩).D)) 0 { loopQ T [45, 62] (lookQ1 T ns) (fuelQ T D) 0 ⟨D, [], [], []⟩ with D := signD T [45, 62] (loopQ T [45, 62] (lookQ1 T ns) (fuelQ T D) 0 ⟨D, [], [], []⟩).D }
def transQ (T : List Tok) (ns : List ByteArray) (D : QD) : QD :=
  { (listsQ T ns (headQ T D).2).D with n := ⟨(listsQ T ns (headQ T D).2).D.n.places, (listsQ T ns (headQ T D).2).D.n.trans ++ [⟨(headQ T D).1.1, (headQ T D).1.2.1, (headQ T D).1.2.2, (listsQ T ns (headQ T D).2).inn, (listsQ T ns (headQ T D).2).nt, (listsQ T ns (headQ T D).2).out⟩]⟩ }
def itemQ (T : List Tok) (ns : List ByteArray) (D : QD) : QD :=
  signD T [59] (if seesD T 1 wPlace D = true then placeQ T D else if seesD T 1 wTrans D = true then transQ T ns D else failD T 6 D)
def itemsQ (T : List Tok) (ns : List ByteArray) : Nat → QD → QD
  | 0, D => D
  | f + 1, D => if D.e = 0 ∧ (D.hd T).kind ≠ 0 then itemsQ T ns f (itemQ T ns D) else D

section
variable {w0 w w' : World} {R : Nat} {T : List Tok} {ns : List ByteArray} {more pre post : List Row} {D : QD} {v : Value}

/-- what a cell of the box and a row beside hold, both anew -/
theorem Q.addNs (h : Q w0 w R T ns more D) (x : ByteArray) (hl : ns.length ≤ 1000000) :
    ∃ vn a n c w2, w.cell? ⟨R, 6, none⟩ = some vn ∧ (∃ a n c, vn = .slice a n c) ∧ (Builtin.append_ #[43, 43] 43 #[vn, .slice (some ⟨w.heap.size, 0, none⟩) 1 1]).run Try.prog (w.alloc (.cells #[.string x] 9)) = .ok (.slice a n c) w2 ∧
      w2.cell? ⟨R, 6, none⟩ = some vn ∧ w2.frozen? ⟨R, 6, none⟩ = false ∧ R < w2.heap.size ∧ Q w0 (w2.setCell ⟨R, 6, none⟩ (.slice a n c)) R T (ns ++ [x]) more D := by
  obtain ⟨h1, h2, vk, vp, vt, vn, vo, l, h3, h4, h5, h6⟩ := h
  have hO : OwnS w0.heap.size w vn ns := h5.own (strRow vn ns) (by simp)
  have hB := h5.own (boxRow R 93 (qCells vk D vp vt vn vo)) (by simp)
  obtain ⟨v', w2, hr, ho, hk, hf⟩ := run_push_str 43 x hO (by omega) h6.size
  obtain ⟨a, n, c, rfl⟩ := own_form3 ho
  have e : ∀ r : Row, boxRow R 93 (qCells vk D vp vt vn vo) :: (netRows vp vt D.n.places l ++ (r :: strRow vo D.told :: more)) = (boxRow R 93 (qCells vk D vp vt vn vo) :: netRows vp vt D.n.places l) ++ r :: (strRow vo D.told :: more) := fun _ => by simp
  rw [e] at h5
  have a1 := h5.swap hk (r' := strRow (.slice a n c) (ns ++ [x])) ho (by
    rcases hf with e | e
    · exact .inl e
    · exact .inr ⟨_, e, by omega⟩)
  have hB2 := a1.own (boxRow R 93 (qCells vk D vp vt vn vo)) (by simp)
  have a1' : AllOwn w0.heap.size w2 (([] : List Row) ++ boxRow R 93 (qCells vk D vp vt vn vo) :: (netRows vp vt D.n.places l ++ strRow (.slice a n c) (ns ++ [x]) :: (strRow vo D.told :: more))) := a1
  obtain ⟨k1, k2⟩ := AllOwn.store a1' 6 (.slice a n c)
  have hR := (boxRow.lt hB2).1
  refine ⟨vn, a, n, c, w2, boxRow.cell hB rfl, own_form3 hO, hr, boxRow.cell hB2 rfl, boxRow.froz hB2 6, (boxRow.lt hB2).2, h1, h2, vk, vp, vt, .slice a n c, vo, l, h3, h4, k1, ?_⟩
  have hk2 : Kept (fun k => w0.heap.size ≤ k) w (w2.setCell ⟨R, 6, none⟩ (.slice a n c)) := (hk.mono (fun k _ e => (Row.lt (r := strRow vn ns) hO e).1)).trans (k2.mono (fun k _ e => by omega))
  exact h6.trans (hk2.below (fun k hk => hk) h6.size)

theorem Q.addPl (h : Q w0 w R T ns more D) (x : Pl) (hl : D.n.places.length ≤ 1000000) :
    ∃ vp a n c w2, w.cell? ⟨R, 4, none⟩ = some vp ∧ (∃ a n c, vp = .slice a n c) ∧ (Builtin.append_ #[27, 27] 27 #[vp, .slice (some ⟨w.heap.size, 0, none⟩) 1 1]).run Try.prog (w.alloc (.cells #[.string x.name, .int .i64 x.tok] 35)) = .ok (.slice a n c) w2 ∧
      w2.cell? ⟨R, 4, none⟩ = some vp ∧ w2.frozen? ⟨R, 4, none⟩ = false ∧ R < w2.heap.size ∧ Q w0 (w2.setCell ⟨R, 4, none⟩ (.slice a n c)) R T ns more { D with n := ⟨D.n.places ++ [x], D.n.trans⟩ } := by
  obtain ⟨h1, h2, vk, vp, vt, vn, vo, l, h3, h4, h5, h6⟩ := h
  have hO : OwnP w0.heap.size w vp D.n.places := h5.own (plRow vp D.n.places) (by simp [netRows])
  have hB := h5.own (boxRow R 93 (qCells vk D vp vt vn vo)) (by simp)
  obtain ⟨v', w2, hr, ho, hk, hf⟩ := run_push_pl 27 x hO hl h6.size
  obtain ⟨a, n, c, rfl⟩ := own_form3 ho
  have a1 : AllOwn w0.heap.size w2 ([boxRow R 93 (qCells vk D vp vt vn vo)] ++ plRow (.slice a n c) (D.n.places ++ [x]) :: (trRow vt l :: l.flatMap arcRows ++ (strRow vn ns :: strRow vo D.told :: more))) :=
    AllOwn.swap (pre := [boxRow R 93 (qCells vk D vp vt vn vo)]) (r := plRow vp D.n.places) (post := trRow vt l :: l.flatMap arcRows ++ (strRow vn ns :: strRow vo D.told :: more)) h5 hk ho (by
      rcases hf with e | e
      · exact .inl e
      · exact .inr ⟨_, e, by omega⟩)
  have hB2 := a1.own (boxRow R 93 (qCells vk D vp vt vn vo)) (by simp)
  obtain ⟨k1, k2⟩ := AllOwn.store (pre := []) (b := R) (t := 93) (cs := qCells vk D vp vt vn vo) (post := plRow (.slice a n c) (D.n.places ++ [x]) :: (trRow vt l :: l.flatMap arcRows ++ (strRow vn ns :: strRow vo D.told :: more))) a1 4 (.slice a n c)
  have hR := (boxRow.lt hB2).1
  refine ⟨vp, a, n, c, w2, boxRow.cell hB rfl, own_form3 hO, hr, boxRow.cell hB2 rfl, boxRow.froz hB2 4, (boxRow.lt hB2).2, h1, h2, vk, .slice a n c, vt, vn, vo, l, h3, h4, k1, ?_⟩
  have hk2 : Kept (fun k => w0.heap.size ≤ k) w (w2.setCell ⟨R, 4, none⟩ (.slice a n c)) := (hk.mono (fun k _ e => (Row.lt (r := plRow vp D.n.places) hO e).1)).trans (k2.mono (fun k _ e => by omega))
  exact h6.trans (hk2.below (fun k hk => hk) h6.size)

/-- a transition under way: its box, its lists -/
def qTr (b : Nat) (nm : ByteArray) (d p : Int) (v1 v2 v3 : Value) (l1 l2 l3 : List (Int × Int)) : List Row := [boxRow b 40 [.string nm, .int .i64 d, .int .i64 p, v1, v2, v3], arcRow v1 l1, arcRow v2 l2, arcRow v3 l3]

theorem Q.addTr {b : Nat} {nm : ByteArray} {d p : Int} {v1 v2 v3 : Value} {l1 l2 l3 : List (Int × Int)} (h : Q w0 w R T ns (more ++ qTr b nm d p v1 v2 v3 l1 l2 l3) D) (g1 : v1.oneCell' = true) (g2 : v2.oneCell' = true) (g3 : v3.oneCell' = true) (hl : D.n.trans.length ≤ 1000000) :
    ∃ vt a n c w2, w.cell? ⟨R, 5, none⟩ = some vt ∧ (∃ a n c, vt = .slice a n c) ∧ (Builtin.append_ #[28, 28] 28 #[vt, .slice (some ⟨w.heap.size, 0, none⟩) 1 1]).run Try.prog (w.alloc (.cells #[.string nm, .int .i64 d, .int .i64 p, v1, v2, v3] 40)) = .ok (.slice a n c) w2 ∧
      w2.cell? ⟨R, 5, none⟩ = some vt ∧ w2.frozen? ⟨R, 5, none⟩ = false ∧ R < w2.heap.size ∧ Q w0 (w2.setCell ⟨R, 5, none⟩ (.slice a n c)) R T ns more { D with n := ⟨D.n.places, D.n.trans ++ [⟨nm, d, p, l1, l2, l3⟩]⟩ } := by
  obtain ⟨h1, h2, vk, vp, vt, vn, vo, l, h3, h4, h5, h6⟩ := h
  have hO : OwnT w0.heap.size w vt l := h5.own (trRow vt l) (by simp [netRows])
  have hB := h5.own (boxRow R 93 (qCells vk D vp vt vn vo)) (by simp)
  have hll : l.length ≤ 1000000 := by rw [← h4] at hl; simpa using hl
  obtain ⟨v', w2, hr, ho, hk, hf⟩ := run_push_tr 28 ((⟨nm, d, p, l1, l2, l3⟩ : Tr), v1, v2, v3) hO g1 g2 g3 hll h6.size
  obtain ⟨a, n, c, rfl⟩ := own_form3 ho
  have a1 : AllOwn w0.heap.size w2 ([boxRow R 93 (qCells vk D vp vt vn vo), plRow vp D.n.places] ++ trRow (.slice a n c) (l ++ [(⟨nm, d, p, l1, l2, l3⟩, v1, v2, v3)]) :: (l.flatMap arcRows ++ (strRow vn ns :: strRow vo D.told :: (more ++ qTr b nm d p v1 v2 v3 l1 l2 l3)))) :=
    AllOwn.swap (pre := [boxRow R 93 (qCells vk D vp vt vn vo), plRow vp D.n.places]) (r := trRow vt l) (post := l.flatMap arcRows ++ (strRow vn ns :: strRow vo D.told :: (more ++ qTr b nm d p v1 v2 v3 l1 l2 l3))) h5 hk ho (by
      rcases hf with e | e
      · exact .inl e
      · exact .inr ⟨_, e, by omega⟩)
  have hB2 := a1.own (boxRow R 93 (qCells vk D vp vt vn vo)) (by simp)
  obtain ⟨k1, k2⟩ := AllOwn.store (pre := []) (b := R) (t := 93) (cs := qCells vk D vp vt vn vo) (post := plRow vp D.n.places :: trRow (.slice a n c) (l ++ [(⟨nm, d, p, l1, l2, l3⟩, v1, v2, v3)]) :: (l.flatMap arcRows ++ (strRow vn ns :: strRow vo D.told :: (more ++ qTr b nm d p v1 v2 v3 l1 l2 l3)))) a1 5 (.slice a n c)
  have hR := (boxRow.lt hB2).1
  refine ⟨vt, a, n, c, w2, boxRow.cell hB rfl, own_form3 hO, hr, boxRow.cell hB2 rfl, boxRow.froz hB2 5, (boxRow.lt hB2).2, h1, h2, vk, vp, .slice a n c, vn, vo, l ++ [(⟨nm, d, p, l1, l2, l3⟩, v1, v2, v3)], h3, by simp [h4], ?_, ?_⟩
  · have e : boxRow R 93 (qCells vk { D with n := ⟨D.n.places, D.n.trans ++ [⟨nm, d, p, l1, l2, l3⟩]⟩ } vp (.slice a n c) vn vo) :: (netRows vp (.slice a n c) D.n.places (l ++ [(⟨nm, d, p, l1, l2, l3⟩, v1, v2, v3)]) ++ (strRow vn ns :: strRow vo D.told :: more)) =
        boxRow R 93 ((qCells vk D vp vt vn vo).set 5 (.slice a n c)) :: plRow vp D.n.places :: trRow (.slice a n c) (l ++ [(⟨nm, d, p, l1, l2, l3⟩, v1, v2, v3)]) :: (l.flatMap arcRows ++ ([arcRow v1 l1, arcRow v2 l2, arcRow v3 l3] ++ (strRow vn ns :: strRow vo D.told :: more))) := by simp [netRows, arcRows, qCells]
    simp only
    rw [e]
    have hs : ((strRow vn ns :: strRow vo D.told :: more) ++ [arcRow v1 l1, arcRow v2 l2, arcRow v3 l3]).Sublist (strRow vn ns :: strRow vo D.told :: (more ++ qTr b nm d p v1 v2 v3 l1 l2 l3)) := (((List.sublist_cons_self _ _).append_left more).cons_cons _).cons_cons _
    have a3 := k1.sub ((((hs.append_left (l.flatMap arcRows)).cons_cons (trRow (.slice a n c) (l ++ [(⟨nm, d, p, l1, l2, l3⟩, v1, v2, v3)]))).cons_cons (plRow vp D.n.places)).cons_cons (boxRow R 93 ((qCells vk D vp vt vn vo).set 5 (.slice a n c))))
    exact a3.perm (((List.perm_append_comm.append_left _).cons _).cons _ |>.cons _)
  · have hk2 : Kept (fun k => w0.heap.size ≤ k) w (w2.setCell ⟨R, 5, none⟩ (.slice a n c)) := (hk.mono (fun k _ e => (Row.lt (r := trRow vt l) hO e).1)).trans (k2.mono (fun k _ e => by omega))
    exact h6.trans (hk2.below (fun k hk => hk) h6.size)
theorem Q.addNil (h : Q w0 w R T ns more D) : Q w0 w R T ns (more ++ [arcRow (.slice none 0 0) []]) D := by
  obtain ⟨h1, h2, vk, vp, vt, vn, vo, l, h3, h4, h5, h6⟩ := h
  have h7 := h5.add (Below.refl _ _) (r := arcRow (.slice none 0 0) []) (ownNil _ _ _ _) (fun k e => by cases e)
  exact ⟨h1, h2, vk, vp, vt, vn, vo, l, h3, h4, by simpa using h7, h6⟩
end
end Go.Proofs.Ytfiielibnnodkaa
