/-
  The document's own parser: what its loops come to; a place's name more, a place, a transition more. The document's own parser: what its steps leave alone, and that it goes on. The document's own parser: what it holds at its end. The document's own parser: the lists ahead of the arrow. The document's own parser: the list behind the arrow.
  Conditions: none beyond each theorem's own.
-/
import Derived.Test.YtfiielibnnodkaaQArc
import Derived.Deep.RegionLaw
import Derived.Deep.LoopGhost
import Derived.Deep.CutRange
/-! ## QMore -/
namespace Go.Proofs.Ytfiielibnnodkaa
open Go.RowKit
set_option linter.unusedVariables false

/-- the names of the places -/
def numsQ : List ByteArray → List Tok → List ByteArray
  | ns, [] => ns
  | ns, t :: ts => numsQ (if ts ≠ [] ∧ t.kind = 1 ∧ t.text = wPlace ∧ (hd ts).kind = 1 ∧ hasSB ns (bs (hd ts).text) = false then ns ++ [bs (hd ts).text] else ns) ts

/-- a number that may be there -/
def optD (T : List Tok) (s : List UInt8) (D : QD) : Int × QD := if seesD T 3 s D = true then numD T 0 (stepD T D) else (0, D)
def longD (T : List Tok) (b : Bool) (D : QD) : QD := if b = true then failD T 5 D else D

/-- a place -/
def placeQ2 (T : List Tok) (D : QD) : QD := longD T (decide ((stepD T D).n.places.length = 32)) (stepD T D)
def placeQ (T : List Tok) (D : QD) : QD :=
  { (optD T [61] (nameD T (placeQ2 T D))).2 with n := ⟨(optD T [61] (nameD T (placeQ2 T D))).2.n.places ++ [⟨bs ((placeQ2 T D).hd T).text, (optD T [61] (nameD T (placeQ2 T D))).1⟩], (optD T [61] (nameD T (placeQ2 T D))).2.n.trans⟩ }

/-- a transition's head -/
def transQ2 (T : List Tok) (D : QD) : QD := longD T (decide ((stepD T D).n.trans.length = 32)) (stepD T D)
def headQ (T : List Tok) (D : QD) : (ByteArray × Int × Int) × QD :=
  ((bs ((transQ2 T D).hd T).text, (optD T [64] (nameD T (transQ2 T D))).1, (optD T [33] (optD T [64] (nameD T (transQ2 T D))).2).1), signD T [58] (optD T [33] (optD T [64] (nameD T (transQ2 T D))).2).2)

/-- lists under way -/
structure LQ where
  D : QD
  inn : List (Int × Int)
  nt : List (Int × Int)
  out : List (Int × Int)

def commaD (T : List Tok) (k : Nat) (D : QD) : QD := if 0 < k then signD T [44] D else D
def lookQ1 (T : List Tok) (ns : List ByteArray) (k : Nat) (x : LQ) : LQ :=
  if seesD T 3 [126] (commaD T k x.D) = true then ⟨(arcD T ns x.nt (stepD T (commaD T k x.D))).2, x.inn, (arcD T ns x.nt (stepD T (commaD T k x.D))).1, x.out⟩
  else ⟨(arcD T ns x.inn (commaD T k x.D)).2, (arcD T ns x.inn (commaD T k x.D)).1, x.nt, x.out⟩
def outQ1 (T : List Tok) (ns : List ByteArray) (k : Nat) (x : LQ) : LQ := ⟨(arcD T ns x.out (commaD T k x.D)).2, x.inn, x.nt, (arcD T ns x.out (commaD T k x.D)).1⟩
def loopQ (T : List Tok) (stop : List UInt8) (one : Nat → LQ → LQ) : Nat → Nat → LQ → LQ
  | 0, _, x => x
  | f + 1, k, x => if x.D.e = 0 ∧ seesD T 3 stop x.D = false then loopQ T stop one f (k + 1) (one k x) else x
def fuelQ (T : List Tok) (D : QD) : Nat := if D.e = 0 then T.length - D.i + 1 else 1
def listsQ (T : List Tok) (ns : List ByteArray) (D : QD) : LQ :=
  loopQ T [59] (outQ1 T ns) (fuelQ T (signD T [45, 62] (loopQ T [45, 62] (lookQ1 T ns) (fuelQ T D) 0 ⟨D, [], [], []⟩).D)) 0 { loopQ T [45, 62] (lookQ1 T ns) (fuelQ T D) 0 ⟨D, [], [], []⟩ with D := signD T [45, 62] (loopQ T [45, 62] (lookQ1 T ns) (fuelQ T D) 0 ⟨D, [], [], []⟩).D }
def transQ (T : List Tok) (ns : List ByteArray) (D : QD) : QD :=
  { (listsQ T ns (headQ T D).2).D with n := ⟨(listsQ T ns (headQ T D).2).D.n.places, (listsQ T ns (headQ T D).2).D.n.trans ++ [⟨(headQ T D).1.1, (headQ T D).1.2.1, (headQ T D).1.2.2, (listsQ T ns (headQ T D).2).inn, (listsQ T ns (headQ T D).2).nt, (listsQ T ns (headQ T D).2).out⟩]⟩ }
def itemQ (T : List Tok) (ns : List ByteArray) (D : QD) : QD :=
  signD T [59] (if seesD T 1 wPlace D = true then placeQ T D else if seesD T 1 wTrans D = true then transQ T ns D else failD T 6 D)
def itemsQ (T : List Tok) (ns : List ByteArray) : Nat → QD → QD
  | 0, D => D
  | f + 1, D => if D.e = 0 ∧ (D.hd T).kind ≠ 0 then itemsQ T ns f (itemQ T ns D) else D

section
variable {w0 w w' : World} {R : Nat} {T : List Tok} {ns : List ByteArray} {more pre post : List Row} {D : QD} {v : Value}

/-- what a cell of the box and a row beside hold, both anew -/
theorem Q.addNs (h : Q w0 w R T ns more D) (x : ByteArray) (hl : ns.length ≤ 1000000) :
    ∃ vn a n c w2, w.cell? ⟨R, 6, none⟩ = some vn ∧ (∃ a n c, vn = .slice a n c) ∧ (Builtin.append_ #[43, 43] 43 #[vn, .slice (some ⟨w.heap.size, 0, none⟩) 1 1]).run Try.prog (w.alloc (.cells #[.string x] 9)) = .ok (.slice a n c) w2 ∧
      w2.cell? ⟨R, 6, none⟩ = some vn ∧ w2.frozen? ⟨R, 6, none⟩ = false ∧ R < w2.heap.size ∧ Q w0 (w2.setCell ⟨R, 6, none⟩ (.slice a n c)) R T (ns ++ [x]) more D := by
  obtain ⟨h1, h2, vk, vp, vt, vn, vo, l, h3, h4, h5, h6⟩ := h
  have hO : OwnS w0.heap.size w vn ns := h5.own (strRow vn ns) (by simp)
  have hB := h5.own (boxRow R 93 (qCells vk D vp vt vn vo)) (by simp)
  obtain ⟨v', w2, hr, ho, hk, hf⟩ := run_push_str 43 x hO (by omega) h6.size
  obtain ⟨a, n, c, rfl⟩ := own_form3 ho
  have e : ∀ r : Row, boxRow R 93 (qCells vk D vp vt vn vo) :: (netRows vp vt D.n.places l ++ (r :: strRow vo D.told :: more)) = (boxRow R 93 (qCells vk D vp vt vn vo) :: netRows vp vt D.n.places l) ++ r :: (strRow vo D.told :: more) := fun _ => by simp
  rw [e] at h5
  have a1 := h5.swap hk (r' := strRow (.slice a n c) (ns ++ [x])) ho (by
    rcases hf with e | e
    · exact .inl e
    · exact .inr ⟨_, e, by omega⟩)
  have hB2 := a1.own (boxRow R 93 (qCells vk D vp vt vn vo)) (by simp)
  have a1' : AllOwn w0.heap.size w2 (([] : List Row) ++ boxRow R 93 (qCells vk D vp vt vn vo) :: (netRows vp vt D.n.places l ++ strRow (.slice a n c) (ns ++ [x]) :: (strRow vo D.told :: more))) := a1
  obtain ⟨k1, k2⟩ := AllOwn.store a1' 6 (.slice a n c)
  have hR := (boxRow.lt hB2).1
  refine ⟨vn, a, n, c, w2, boxRow.cell hB rfl, own_form3 hO, hr, boxRow.cell hB2 rfl, boxRow.froz hB2 6, (boxRow.lt hB2).2, h1, h2, vk, vp, vt, .slice a n c, vo, l, h3, h4, k1, ?_⟩
  have hk2 : Kept (fun k => w0.heap.size ≤ k) w (w2.setCell ⟨R, 6, none⟩ (.slice a n c)) := (hk.mono (fun k _ e => (Row.lt (r := strRow vn ns) hO e).1)).trans (k2.mono (fun k _ e => by omega))
  exact h6.trans (hk2.below (fun k hk => hk) h6.size)

theorem Q.addPl (h : Q w0 w R T ns more D) (x : Pl) (hl : D.n.places.length ≤ 1000000) :
    ∃ vp a n c w2, w.cell? ⟨R, 4, none⟩ = some vp ∧ (∃ a n c, vp = .slice a n c) ∧ (Builtin.append_ #[27, 27] 27 #[vp, .slice (some ⟨w.heap.size, 0, none⟩) 1 1]).run Try.prog (w.alloc (.cells #[.string x.name, .int .i64 x.tok] 35)) = .ok (.slice a n c) w2 ∧
      w2.cell? ⟨R, 4, none⟩ = some vp ∧ w2.frozen? ⟨R, 4, none⟩ = false ∧ R < w2.heap.size ∧ Q w0 (w2.setCell ⟨R, 4, none⟩ (.slice a n c)) R T ns more { D with n := ⟨D.n.places ++ [x], D.n.trans⟩ } := by
  obtain ⟨h1, h2, vk, vp, vt, vn, vo, l, h3, h4, h5, h6⟩ := h
  have hO : OwnP w0.heap.size w vp D.n.places := h5.own (plRow vp D.n.places) (by simp [netRows])
  have hB := h5.own (boxRow R 93 (qCells vk D vp vt vn vo)) (by simp)
  obtain ⟨v', w2, hr, ho, hk, hf⟩ := run_push_pl 27 x hO hl h6.size
  obtain ⟨a, n, c, rfl⟩ := own_form3 ho
  have a1 : AllOwn w0.heap.size w2 ([boxRow R 93 (qCells vk D vp vt vn vo)] ++ plRow (.slice a n c) (D.n.places ++ [x]) :: (trRow vt l :: l.flatMap arcRows ++ (strRow vn ns :: strRow vo D.told :: more))) :=
    AllOwn.swap (pre := [boxRow R 93 (qCells vk D vp vt vn vo)]) (r := plRow vp D.n.places) (post := trRow vt l :: l.flatMap arcRows ++ (strRow vn ns :: strRow vo D.told :: more)) h5 hk ho (by
      rcases hf with e | e
      · exact .inl e
      · exact .inr ⟨_, e, by omega⟩)
  have hB2 := a1.own (boxRow R 93 (qCells vk D vp vt vn vo)) (by simp)
  obtain ⟨k1, k2⟩ := AllOwn.store (pre := []) (b := R) (t := 93) (cs := qCells vk D vp vt vn vo) (post := plRow (.slice a n c) (D.n.places ++ [x]) :: (trRow vt l :: l.flatMap arcRows ++ (strRow vn ns :: strRow vo D.told :: more))) a1 4 (.slice a n c)
  have hR := (boxRow.lt hB2).1
  refine ⟨vp, a, n, c, w2, boxRow.cell hB rfl, own_form3 hO, hr, boxRow.cell hB2 rfl, boxRow.froz hB2 4, (boxRow.lt hB2).2, h1, h2, vk, .slice a n c, vt, vn, vo, l, h3, h4, k1, ?_⟩
  have hk2 : Kept (fun k => w0.heap.size ≤ k) w (w2.setCell ⟨R, 4, none⟩ (.slice a n c)) := (hk.mono (fun k _ e => (Row.lt (r := plRow vp D.n.places) hO e).1)).trans (k2.mono (fun k _ e => by omega))
  exact h6.trans (hk2.below (fun k hk => hk) h6.size)

/-- a transition under way: its box, its lists -/
def qTr (b : Nat) (nm : ByteArray) (d p : Int) (v1 v2 v3 : Value) (l1 l2 l3 : List (Int × Int)) : List Row := [boxRow b 40 [.string nm, .int .i64 d, .int .i64 p, v1, v2, v3], arcRow v1 l1, arcRow v2 l2, arcRow v3 l3]

theorem Q.addTr {b : Nat} {nm : ByteArray} {d p : Int} {v1 v2 v3 : Value} {l1 l2 l3 : List (Int × Int)} (h : Q w0 w R T ns (more ++ qTr b nm d p v1 v2 v3 l1 l2 l3) D) (g1 : v1.oneCell' = true) (g2 : v2.oneCell' = true) (g3 : v3.oneCell' = true) (hl : D.n.trans.length ≤ 1000000) :
    ∃ vt a n c w2, w.cell? ⟨R, 5, none⟩ = some vt ∧ (∃ a n c, vt = .slice a n c) ∧ (Builtin.append_ #[28, 28] 28 #[vt, .slice (some ⟨w.heap.size, 0, none⟩) 1 1]).run Try.prog (w.alloc (.cells #[.string nm, .int .i64 d, .int .i64 p, v1, v2, v3] 40)) = .ok (.slice a n c) w2 ∧
      w2.cell? ⟨R, 5, none⟩ = some vt ∧ w2.frozen? ⟨R, 5, none⟩ = false ∧ R < w2.heap.size ∧ Q w0 (w2.setCell ⟨R, 5, none⟩ (.slice a n c)) R T ns more { D with n := ⟨D.n.places, D.n.trans ++ [⟨nm, d, p, l1, l2, l3⟩]⟩ } := by
  obtain ⟨h1, h2, vk, vp, vt, vn, vo, l, h3, h4, h5, h6⟩ := h
  have hO : OwnT w0.heap.size w vt l := h5.own (trRow vt l) (by simp [netRows])
  have hB := h5.own (boxRow R 93 (qCells vk D vp vt vn vo)) (by simp)
  have hll : l.length ≤ 1000000 := by rw [← h4] at hl; simpa using hl
  obtain ⟨v', w2, hr, ho, hk, hf⟩ := run_push_tr 28 ((⟨nm, d, p, l1, l2, l3⟩ : Tr), v1, v2, v3) hO g1 g2 g3 hll h6.size
  obtain ⟨a, n, c, rfl⟩ := own_form3 ho
  have a1 : AllOwn w0.heap.size w2 ([boxRow R 93 (qCells vk D vp vt vn vo), plRow vp D.n.places] ++ trRow (.slice a n c) (l ++ [(⟨nm, d, p, l1, l2, l3⟩, v1, v2, v3)]) :: (l.flatMap arcRows ++ (strRow vn ns :: strRow vo D.told :: (more ++ qTr b nm d p v1 v2 v3 l1 l2 l3)))) :=
    AllOwn.swap (pre := [boxRow R 93 (qCells vk D vp vt vn vo), plRow vp D.n.places]) (r := trRow vt l) (post := l.flatMap arcRows ++ (strRow vn ns :: strRow vo D.told :: (more ++ qTr b nm d p v1 v2 v3 l1 l2 l3))) h5 hk ho (by
      rcases hf with e | e
      · exact .inl e
      · exact .inr ⟨_, e, by omega⟩)
  have hB2 := a1.own (boxRow R 93 (qCells vk D vp vt vn vo)) (by simp)
  obtain ⟨k1, k2⟩ := AllOwn.store (pre := []) (b := R) (t := 93) (cs := qCells vk D vp vt vn vo) (post := plRow vp D.n.places :: trRow (.slice a n c) (l ++ [(⟨nm, d, p, l1, l2, l3⟩, v1, v2, v3)]) :: (l.flatMap arcRows ++ (strRow vn ns :: strRow vo D.told :: (more ++ qTr b nm d p v1 v2 v3 l1 l2 l3)))) a1 5 (.slice a n c)
  have hR := (boxRow.lt hB2).1
  refine ⟨vt, a, n, c, w2, boxRow.cell hB rfl, own_form3 hO, hr, boxRow.cell hB2 rfl, boxRow.froz hB2 5, (boxRow.lt hB2).2, h1, h2, vk, vp, .slice a n c, vn, vo, l ++ [(⟨nm, d, p, l1, l2, l3⟩, v1, v2, v3)], h3, by simp [h4], ?_, ?_⟩
  · have e : boxRow R 93 (qCells vk { D with n := ⟨D.n.places, D.n.trans ++ [⟨nm, d, p, l1, l2, l3⟩]⟩ } vp (.slice a n c) vn vo) :: (netRows vp (.slice a n c) D.n.places (l ++ [(⟨nm, d, p, l1, l2, l3⟩, v1, v2, v3)]) ++ (strRow vn ns :: strRow vo D.told :: more)) =
        boxRow R 93 ((qCells vk D vp vt vn vo).set 5 (.slice a n c)) :: plRow vp D.n.places :: trRow (.slice a n c) (l ++ [(⟨nm, d, p, l1, l2, l3⟩, v1, v2, v3)]) :: (l.flatMap arcRows ++ ([arcRow v1 l1, arcRow v2 l2, arcRow v3 l3] ++ (strRow vn ns :: strRow vo D.told :: more))) := by simp [netRows, arcRows, qCells]
    simp only
    rw [e]
    have hs : ((strRow vn ns :: strRow vo D.told :: more) ++ [arcRow v1 l1, arcRow v2 l2, arcRow v3 l3]).Sublist (strRow vn ns :: strRow vo D.told :: (more ++ qTr b nm d p v1 v2 v3 l1 l2 l3)) := (((List.sublist_cons_self _ _).append_left more).cons_cons _).cons_cons _
    have a3 := k1.sub ((((hs.append_left (l.flatMap arcRows)).cons_cons (trRow (.slice a n c) (l ++ [(⟨nm, d, p, l1, l2, l3⟩, v1, v2, v3)]))).cons_cons (plRow vp D.n.places)).cons_cons (boxRow R 93 ((qCells vk D vp vt vn vo).set 5 (.slice a n c))))
    exact a3.perm (((List.perm_append_comm.append_left _).cons _).cons _ |>.cons _)
  · have hk2 : Kept (fun k => w0.heap.size ≤ k) w (w2.setCell ⟨R, 5, none⟩ (.slice a n c)) := (hk.mono (fun k _ e => (Row.lt (r := trRow vt l) hO e).1)).trans (k2.mono (fun k _ e => by omega))
    exact h6.trans (hk2.below (fun k hk => hk) h6.size)
theorem Q.addNil (h : Q w0 w R T ns more D) : Q w0 w R T ns (more ++ [arcRow (.slice none 0 0) []]) D := by
  obtain ⟨h1, h2, vk, vp, vt, vn, vo, l, h3, h4, h5, h6⟩ := h
  have h7 := h5.add (Below.refl _ _) (r := arcRow (.slice none 0 0) []) (ownNil _ _ _ _) (fun k e => by cases e)
  exact ⟨h1, h2, vk, vp, vt, vn, vo, l, h3, h4, by simpa using h7, h6⟩
end
end Go.Proofs.Ytfiielibnnodkaa

/-! ## QLoops -/
/-! ## QAdv -/
namespace Go.Proofs.Ytfiielibnnodkaa
open Go.RowKit
set_option linter.unusedVariables false

/-- the net and the names stay, the place does not go back, an error stays -/
structure Adv (D D' : QD) : Prop where
  n : D'.n = D.n
  told : D'.told = D.told
  i : D.i ≤ D'.i
  e : D'.e = 0 → D.e = 0
theorem Adv.refl (D : QD) : Adv D D := ⟨rfl, rfl, Nat.le_refl _, fun h => h⟩
theorem Adv.trans {D D' D'' : QD} (h : Adv D D') (k : Adv D' D'') : Adv D D'' := ⟨k.n.trans h.n, k.told.trans h.told, Nat.le_trans h.i k.i, fun x => h.e (k.e x)⟩

section
variable {T : List Tok} {ns : List ByteArray} {D : QD}
theorem failD_adv (er : Int) : Adv D (failD T er D) := by
  unfold failD
  split
  · rename_i h; exact ⟨rfl, rfl, Nat.le_refl _, fun _ => h⟩
  · exact Adv.refl D
theorem failD_ne {er : Int} (her : er ≠ 0) : (failD T er D).e ≠ 0 := by
  unfold failD
  split
  · exact her
  · assumption
theorem stepD_adv : Adv D (stepD T D) := by
  unfold stepD
  split
  · exact ⟨rfl, rfl, Nat.le_succ _, fun h => h⟩
  · exact Adv.refl D
theorem stepD_lt (h : D.e = 0) (hi : D.i + 1 < T.length) : (stepD T D).i = D.i + 1 ∧ (stepD T D).e = 0 := by
  unfold stepD; rw [if_pos ⟨h, hi⟩]; exact ⟨rfl, h⟩
theorem signD_adv (s : List UInt8) : Adv D (signD T s D) := by
  unfold signD
  split
  · exact stepD_adv
  · exact (failD_adv 6).trans stepD_adv
theorem numD_adv (least : Int) : Adv D (numD T least D).2 := by
  unfold numD
  split
  · split
    · exact (failD_adv 3).trans stepD_adv
    · exact stepD_adv
  · exact failD_adv 6
theorem optD_adv (s : List UInt8) : Adv D (optD T s D).2 := by
  unfold optD
  split
  · exact stepD_adv.trans (numD_adv 0)
  · exact Adv.refl D
theorem longD_adv (b : Bool) : Adv D (longD T b D) := by
  unfold longD
  split
  · exact failD_adv 5
  · exact Adv.refl D
theorem commaD_adv (k : Nat) : Adv D (commaD T k D) := by
  unfold commaD
  split
  · exact signD_adv _
  · exact Adv.refl D
theorem nameD1_adv : Adv D (nameD1 T D) := by
  unfold nameD1
  split
  · split
    · exact failD_adv 7
    · exact Adv.refl D
  · exact failD_adv 6
/-- a name: one told more -/
theorem nameD_adv : (nameD T D).n = D.n ∧ (nameD T D).told = D.told ++ [bs (D.hd T).text] ∧ D.i ≤ (nameD T D).i ∧ ((nameD T D).e = 0 → D.e = 0) := by
  have h1 := nameD1_adv (T := T) (D := D)
  have h2 := stepD_adv (T := T) (D := { nameD1 T D with told := (nameD1 T D).told ++ [bs (D.hd T).text] })
  unfold nameD
  exact ⟨h2.n.trans h1.n, by rw [h2.told]; simp only; rw [h1.told], Nat.le_trans h1.i h2.i, fun e => h1.e (h2.e e)⟩
theorem arcD_adv (l : List (Int × Int)) : Adv D (arcD T ns l D).2 ∧ (arcD T ns l D).1.length ≤ l.length + 1 := by
  have h1 : Adv D (arcD1 T ns l D) := by unfold arcD1; split; exact failD_adv 7; exact Adv.refl D
  have h2 : Adv D (arcD2 T ns l D) := by
    unfold arcD2
    split
    · exact (h1.trans (failD_adv 5)).trans stepD_adv
    · exact h1.trans stepD_adv
  unfold arcD
  split
  · split
    · exact ⟨h2.trans (stepD_adv.trans (numD_adv 1)), by simp⟩
    · exact ⟨h2, by simp⟩
  · exact ⟨failD_adv 6, by simp⟩
/-- a token that is no end is not the last one -/
theorem good_more {k : Nat} (hg : Good (T.drop k)) (hk : (hd (T.drop k)).kind ≠ 0) : k + 1 < T.length := by
  have h1 := hg.tailK hk
  have h2 := h1.len
  rw [List.length_tail, List.length_drop] at h2
  omega
theorem arcD_on {l : List (Int × Int)} (hg : Good (T.drop D.i)) (h : (arcD T ns l D).2.e = 0) : D.i < (arcD T ns l D).2.i ∧ (l.length ≤ 8 → (arcD T ns l D).1.length ≤ 8) := by
  have hD : D.e = 0 := (arcD_adv l).1.e h
  by_cases hs : seesD T 1 [] D = true
  · have hk : (D.hd T).kind = 1 := by
      unfold seesD at hs
      simp only [Bool.and_eq_true, decide_eq_true_eq] at hs
      exact hs.2.1
    have hm : D.i + 1 < T.length := good_more hg (by show (D.hd T).kind ≠ 0; rw [hk]; decide)
    have a1 : Adv D (arcD1 T ns l D) := by unfold arcD1; split; exact failD_adv 7; exact Adv.refl D
    have i1 : (arcD1 T ns l D).i = D.i := by unfold arcD1; split; exact (failD_told T 7 D).2.2; rfl
    have e2 : (arcD2 T ns l D).e = 0 := by
      unfold arcD at h
      rw [if_pos hs] at h
      split at h
      · exact (stepD_adv.trans (numD_adv 1)).e h
      · exact h
    have hl : l.length ≠ 8 := by
      intro e
      unfold arcD2 at e2
      rw [if_pos e] at e2
      exact failD_ne (by decide) (stepD_adv.e e2)
    have e1 : (arcD1 T ns l D).e = 0 := by
      unfold arcD2 at e2
      rw [if_neg hl] at e2
      exact stepD_adv.e e2
    have i2 : (arcD2 T ns l D).i = D.i + 1 := by
      unfold arcD2
      rw [if_neg hl, (stepD_lt e1 (by omega)).1, i1]
    refine ⟨?_, fun h8 => by have := (arcD_adv (T := T) (ns := ns) (D := D) l).2; omega⟩
    unfold arcD
    rw [if_pos hs]
    split
    · have := (stepD_adv (T := T) (D := arcD2 T ns l D)).i
      have := (numD_adv (T := T) (D := stepD T (arcD2 T ns l D)) 1).i
      simp only
      omega
    · simp only; omega
  · exfalso
    unfold arcD at h
    rw [if_neg hs] at h
    exact failD_ne (by decide) h

/-! ### lists -/
structure AdvL (T : List Tok) (x y : LQ) : Prop where
  adv : Adv x.D y.D
  inn : y.inn.length ≤ x.inn.length + 1
  nt : y.nt.length ≤ x.nt.length + 1
  out : y.out.length ≤ x.out.length + 1
theorem lookQ1_adv (k : Nat) (x : LQ) : AdvL T x (lookQ1 T ns k x) := by
  unfold lookQ1
  split
  · exact ⟨((commaD_adv k).trans stepD_adv).trans (arcD_adv x.nt).1, by simp, (arcD_adv x.nt).2, by simp⟩
  · exact ⟨(commaD_adv k).trans (arcD_adv x.inn).1, (arcD_adv x.inn).2, by simp, by simp⟩
theorem outQ1_adv (k : Nat) (x : LQ) : AdvL T x (outQ1 T ns k x) := ⟨(commaD_adv k).trans (arcD_adv x.out).1, by simp [outQ1], by simp [outQ1], (arcD_adv x.out).2⟩

theorem loopQ_adv {one : Nat → LQ → LQ} (h1 : ∀ k x, Adv x.D (one k x).D) (stop : List UInt8) (f : Nat) : ∀ (k : Nat) (x : LQ), Adv x.D (loopQ T stop one f k x).D := by
  induction f with
  | zero => intro k x; exact Adv.refl _
  | succ f ih =>
    intro k x
    unfold loopQ
    split
    · exact (h1 k x).trans (ih (k + 1) (one k x))
    · exact Adv.refl _
theorem listsQ_adv : Adv D (listsQ T ns D).D := by
  unfold listsQ
  refine Adv.trans ?_ (loopQ_adv (fun k x => (outQ1_adv k x).adv) _ _ _ _)
  exact (loopQ_adv (x := ⟨D, [], [], []⟩) (fun k x => (lookQ1_adv k x).adv) _ _ _).trans (signD_adv _)

/-- an item that goes well goes on, and leaves room -/
structure Fine6 (D : QD) : Prop where
  told : D.told.length ≤ D.i
  pl : D.n.places.length ≤ 32
  tr : D.n.trans.length ≤ 32
theorem placeQ_on (hD : D.e = 0) (hi : D.i + 1 < T.length) (hf : Fine6 D) (h : (placeQ T D).e = 0) : D.i < (placeQ T D).i ∧ Fine6 (placeQ T D) := by
  obtain ⟨s1, s2⟩ := stepD_lt hD hi
  have a1 := stepD_adv (T := T) (D := D)
  have a2 : Adv (stepD T D) (placeQ2 T D) := longD_adv _
  obtain ⟨n1, n2, n3, n4⟩ := nameD_adv (T := T) (D := placeQ2 T D)
  have a4 := optD_adv (T := T) (D := nameD T (placeQ2 T D)) [61]
  have e2 : (placeQ2 T D).e = 0 := n4 (a4.e h)
  have hl : (stepD T D).n.places.length ≠ 32 := by
    intro e
    unfold placeQ2 longD at e2
    rw [if_pos (by rw [e]; rfl)] at e2
    exact failD_ne (by decide) e2
  have hn : (optD T [61] (nameD T (placeQ2 T D))).2.n = D.n := (a4.n.trans n1).trans (a2.n.trans a1.n)
  have ht : (optD T [61] (nameD T (placeQ2 T D))).2.told.length = D.told.length + 1 := by rw [a4.told, n2, a2.told, a1.told]; simp
  have hii : D.i + 1 ≤ (optD T [61] (nameD T (placeQ2 T D))).2.i := by have := a2.i; have := a4.i; omega
  have f1 := hf.told
  have f2 := hf.pl
  have f3 := hf.tr
  rw [a1.n] at hl
  unfold placeQ
  refine ⟨by simp only; omega, ⟨by simp only; omega, ?_, ?_⟩⟩
  · simp only [hn, List.length_append, List.length_singleton]; omega
  · simp only [hn]; omega
theorem transQ_on (hD : D.e = 0) (hi : D.i + 1 < T.length) (hf : Fine6 D) (h : (transQ T ns D).e = 0) : D.i < (transQ T ns D).i ∧ Fine6 (transQ T ns D) := by
  obtain ⟨s1, s2⟩ := stepD_lt hD hi
  have a1 := stepD_adv (T := T) (D := D)
  have a2 : Adv (stepD T D) (transQ2 T D) := longD_adv _
  obtain ⟨n1, n2, n3, n4⟩ := nameD_adv (T := T) (D := transQ2 T D)
  have a4 := optD_adv (T := T) (D := nameD T (transQ2 T D)) [64]
  have a5 := optD_adv (T := T) (D := (optD T [64] (nameD T (transQ2 T D))).2) [33]
  have a6 := signD_adv (T := T) (D := (optD T [33] (optD T [64] (nameD T (transQ2 T D))).2).2) [58]
  have a7 := listsQ_adv (T := T) (ns := ns) (D := (headQ T D).2)
  have a8 : Adv (nameD T (transQ2 T D)) (listsQ T ns (headQ T D).2).D := ((a4.trans a5).trans a6).trans a7
  have e2 : (transQ2 T D).e = 0 := n4 (a8.e h)
  have hl : (stepD T D).n.trans.length ≠ 32 := by
    intro e
    unfold transQ2 longD at e2
    rw [if_pos (by rw [e]; rfl)] at e2
    exact failD_ne (by decide) e2
  have hn : (listsQ T ns (headQ T D).2).D.n = D.n := (a8.n.trans n1).trans (a2.n.trans a1.n)
  have ht : (listsQ T ns (headQ T D).2).D.told.length = D.told.length + 1 := by rw [a8.told, n2, a2.told, a1.told]; simp
  have hii : D.i + 1 ≤ (listsQ T ns (headQ T D).2).D.i := by have := a2.i; have := a8.i; omega
  have f1 := hf.told
  have f2 := hf.pl
  have f3 := hf.tr
  rw [a1.n] at hl
  unfold transQ
  refine ⟨by simp only; omega, ⟨by simp only; omega, ?_, ?_⟩⟩
  · simp only [hn]; omega
  · simp only [hn, List.length_append, List.length_singleton]; omega
theorem itemQ_on (hD : D.e = 0) (hi : D.i + 1 < T.length) (hf : Fine6 D) (h : (itemQ T ns D).e = 0) : D.i < (itemQ T ns D).i ∧ Fine6 (itemQ T ns D) := by
  obtain ⟨M, hM⟩ : ∃ M, M = (if seesD T 1 wPlace D = true then placeQ T D else if seesD T 1 wTrans D = true then transQ T ns D else failD T 6 D) := ⟨_, rfl⟩
  have ha := signD_adv (T := T) (D := M) [59]
  have hq : itemQ T ns D = signD T [59] M := by unfold itemQ; rw [← hM]
  rw [hq] at h ⊢
  have hMe := ha.e h
  have key : D.i < M.i ∧ Fine6 M := by
    rw [hM] at hMe ⊢
    split at hMe
    · rename_i c; rw [if_pos c]; exact placeQ_on hD hi hf hMe
    · rename_i c
      rw [if_neg c]
      split at hMe
      · rename_i d; rw [if_pos d]; exact transQ_on hD hi hf hMe
      · exact absurd hMe (failD_ne (by decide))
  refine ⟨Nat.lt_of_lt_of_le key.1 ha.i, ⟨?_, ?_, ?_⟩⟩
  · rw [ha.told]; exact Nat.le_trans key.2.told ha.i
  · rw [ha.n]; exact key.2.pl
  · rw [ha.n]; exact key.2.tr
end
end Go.Proofs.Ytfiielibnnodkaa

/-! ## QEnd -/
namespace Go.Proofs.Ytfiielibnnodkaa
open Go.RowKit
set_option linter.unusedVariables false

section
variable {w0 w w' : World} {R : Nat} {T : List Tok} {ns : List ByteArray} {more pre post : List Row} {D : QD}

theorem Q.places_at (h : Q w0 w R T ns more D) : ∃ a n c, w.cell? ⟨R, 4, none⟩ = some (.slice a n c) ∧ n = D.n.places.length := by
  obtain ⟨h1, h2, vk, vp, vt, vn, vo, l, h3, h4, h5, h6⟩ := h
  have hB := h5.own (boxRow R 93 (qCells vk D vp vt vn vo)) (by simp)
  have hO := RowAt.of_own (h5.own (plRow vp D.n.places) (by simp [netRows]))
  obtain ⟨a, c, e⟩ := RowAt.len hO
  refine ⟨a, _, c, ?_, rfl⟩
  have := boxRow.cell hB (j := 4) (x := vp) rfl
  rw [this]
  exact congrArg some e
theorem Q.trans_at (h : Q w0 w R T ns more D) : ∃ a n c, w.cell? ⟨R, 5, none⟩ = some (.slice a n c) ∧ n = D.n.trans.length := by
  obtain ⟨h1, h2, vk, vp, vt, vn, vo, l, h3, h4, h5, h6⟩ := h
  have hB := h5.own (boxRow R 93 (qCells vk D vp vt vn vo)) (by simp)
  have hO := RowAt.of_own (h5.own (trRow vt l) (by simp [netRows]))
  obtain ⟨a, c, e⟩ := RowAt.len hO
  have hl : l.length = D.n.trans.length := by rw [← h4]; simp
  refine ⟨a, _, c, ?_, hl⟩
  have := boxRow.cell hB (j := 5) (x := vt) rfl
  rw [this]
  exact congrArg some e
theorem Q.net (h : Q w0 w R T ns more D) : ∃ a1 n1 c1 a2 n2 c2, w.cell? ⟨R, 4, none⟩ = some (.slice a1 n1 c1) ∧ w.cell? ⟨R, 5, none⟩ = some (.slice a2 n2 c2) ∧
    ∀ w' : World, Kept (fun k => k < w0.heap.size) w w' → NetAt w' (.slice a1 n1 c1) (.slice a2 n2 c2) D.n := by
  obtain ⟨a1, n1, c1, e1, g1⟩ := h.places_at
  obtain ⟨a2, n2, c2, e2, g2⟩ := h.trans_at
  obtain ⟨h1, h2, vk, vp, vt, vn, vo, l, h3, h4, h5, h6⟩ := h
  have hB := h5.own (boxRow R 93 (qCells vk D vp vt vn vo)) (by simp)
  have k1 : some vp = some (.slice a1 n1 c1) := (boxRow.cell hB (j := 4) (x := vp) rfl).symm.trans e1
  have k2 : some vt = some (.slice a2 n2 c2) := (boxRow.cell hB (j := 5) (x := vt) rfl).symm.trans e2
  injection k1 with k1
  injection k2 with k2
  subst k1 k2
  refine ⟨a1, n1, c1, a2, n2, c2, e1, e2, fun w' hk => ?_⟩
  have h7 := h5.keep hk (fun k hk1 _ hk2 => by omega)
  have h8 : NetOwn w0.heap.size w' (.slice a1 n1 c1) (.slice a2 n2 c2) D.n := ⟨l, h4, h7.sub ((List.sublist_append_left _ _).cons _)⟩
  exact h8.at_
/-- a box beside -/
theorem Q.boxAt {b : Nat} {t : TypeId} {cs : List Value} (h : Q w0 w R T ns more D) (hm : boxRow b t cs ∈ more) : (∀ j x, cs[j]? = some x → w.cell? ⟨b, j, none⟩ = some x) ∧ (∀ j, w.frozen? ⟨b, j, none⟩ = false) ∧ b < w.heap.size := by
  have hB := h.mem hm
  exact ⟨fun j x hj => boxRow.cell hB hj, boxRow.froz hB, (boxRow.lt hB).2⟩
theorem Q.arcForm {v : Value} {l : List (Int × Int)} (h : Q w0 w R T ns more D) (hm : arcRow v l ∈ more) : ∃ a n c, v = .slice a n c := by
  obtain ⟨a, c, e⟩ := RowAt.len (RowAt.of_own (h.mem hm))
  exact ⟨a, _, c, e⟩
theorem itemsQ_stop {k : Nat} (h : ¬ (D.e = 0 ∧ (D.hd T).kind ≠ 0)) : itemsQ T ns (k + 1) D = D := by rw [itemsQ, if_neg h]
theorem itemsQ_go {k : Nat} (h : D.e = 0 ∧ (D.hd T).kind ≠ 0) : itemsQ T ns (k + 1) D = itemsQ T ns k (itemQ T ns D) := by rw [itemsQ, if_pos h]
theorem loopQ_stop {stop : List UInt8} {one : Nat → LQ → LQ} {k j : Nat} {x : LQ} (h : ¬ (x.D.e = 0 ∧ seesD T 3 stop x.D = false)) : loopQ T stop one (k + 1) j x = x := by rw [loopQ, if_neg h]
theorem loopQ_go {stop : List UInt8} {one : Nat → LQ → LQ} {k j : Nat} {x : LQ} (h : x.D.e = 0 ∧ seesD T 3 stop x.D = false) : loopQ T stop one (k + 1) j x = loopQ T stop one k (j + 1) (one j x) := by rw [loopQ, if_pos h]
theorem Q.tran {b : Nat} {nm : ByteArray} (h : Q w0 w R T ns [] D) : Q w0 (w.alloc (.cells #[.string nm, .int .i64 0, .int .i64 0, .slice none 0 0, .slice none 0 0, .slice none 0 0] 40)) R T ns (qTr w.heap.size nm 0 0 (.slice none 0 0) (.slice none 0 0) (.slice none 0 0) [] [] []) D :=
  (((h.box #[.string nm, .int .i64 0, .int .i64 0, .slice none 0 0, .slice none 0 0, .slice none 0 0] 40).addNil).addNil).addNil
end
end Go.Proofs.Ytfiielibnnodkaa

/-! ## QLoopA -/
namespace Go.Proofs.Ytfiielibnnodkaa
open Go.RowKit
set_option linter.unusedVariables false

def loopsOf : Code → List Code
  | .loop c => c :: loopsOf c
  | .seq a b => loopsOf a ++ loopsOf b
  | .block _ c => loopsOf c
  | .scope c => loopsOf c
  | .cond _ a b => loopsOf a ++ loopsOf b
  | _ => []
noncomputable def lookBody : Code := ((Try.f27.body.map loopsOf).getD []).getD 2 .skip

set_option maxRecDepth 1000000 in
set_option maxHeartbeats 8000000 in
theorem look_loop {w1 wK : World} {T : List Tok} {NS : List ByteArray} {bt : Nat} {nm : ByteArray} {dl pr : Int} {D6 : QD} {nt : Nat} {c0 c1 c2 c3 c4 c5 c6 c7 c9 c10 c13 c14 c15 c16 c17 c18 c19 c20 c21 c22 c23 c24 c25 c26 c27 c28 c29 c30 c31 c32 c33 c34 c35 c36 c37 c38 c39 c40 c41 c42 c43 c44 c45 c46 c47 c48 c49 c50 c51 c52 c53 c54 c55 c56 c57 c58 c59 c60 c61 c62 c63 c64 c65 c66 c67 c68 c69 c70 c71 c72 c73 c74 c75 c76 c77 c78 c79 c80 c81 c82 c83 c84 c85 c86 c87 c88 c89 c90 c91 c92 c93 c94 c95 c96 c97 c98 c99 c100 c101 c102 c103 c104 c105 c106 c107 c108 c109 c110 c111 c112 c113 c114 c115 c116 c117 c118 c119 c120 c121 c122 c123 c124 c125 c126 c127 c128 c129 c130 c131 c132 c133 c134 c135 c136 c137 c138 c139 c140 c141 c142 c143 c144 c145 c146 c147 c148 c149 c150 c151 c152 c153 c154 c155 c156 c157 c158 c159 c160 c161 c162 c163 c164 c165 c166 c167 c168 c169 c170 c171 c172 c173 c174 c175 c176 c177 c178 c179 c180 c181 c182 c183 c184 c185 c186 c187 c188 c189 c190 c191 c192 c193 c194 c195 c196 c197 c198 c199 c200 c201 c202 c203 c204 c205 c206 c207 c208 c209 c210 c211 c212 c213 c214 c215 c216 c217 c218 c219 c220 c221 c222 c223 c224 c225 c226 c227 c228 c229 c230 c231 c232 c233 c234 c235 c236 c237 c238 c239 c240 c241 c242 c243 c244 c245 c246 c247 c248 c249 c250 c251 c252 c253 c254 c255 c256 : Value} {Qx : Exit → Act → World → Prop}
    (hnt : nt = T.length) (htl2 : nt ≤ 800001) (hQ : Q w1 wK w1.heap.size T NS (qTr bt nm dl pr (.slice none 0 0) (.slice none 0 0) (.slice none 0 0) [] [] []) D6)
    (hexit : ∀ (x : LQ) (A1 : Option Addr) (N1 C1 : Nat) (A2 : Option Addr) (N2 C2 : Nat) (A3 : Option Addr) (N3 C3 : Nat) (u12 u170 u171 u172 u173 u174 u175 u176 u177 u178 u179 u180 u181 u182 u183 u184 u185 u186 u187 u188 u189 u190 u191 u192 u193 u194 u195 u196 u197 u198 u199 : Value) (W' : World), Q w1 W' w1.heap.size T NS (qTr bt nm dl pr (.slice A1 N1 C1) (.slice A2 N2 C2) (.slice A3 N3 C3) x.inn x.nt x.out) x.D → x = loopQ T [45, 62] (lookQ1 T NS) (fuelQ T D6) 0 ⟨D6, [], [], []⟩ → x.out = [] → Qx (.exit 4) ⟨(c0 :: c1 :: c2 :: c3 :: c4 :: c5 :: c6 :: c7 :: (.pointer (some ⟨w1.heap.size, 0, none⟩)) :: c9 :: c10 :: (.pointer (some ⟨bt, 0, none⟩)) :: u12 :: c13 :: c14 :: c15 :: c16 :: c17 :: c18 :: c19 :: c20 :: c21 :: c22 :: c23 :: c24 :: c25 :: c26 :: c27 :: c28 :: c29 :: c30 :: c31 :: c32 :: c33 :: c34 :: c35 :: c36 :: c37 :: c38 :: c39 :: c40 :: c41 :: c42 :: c43 :: c44 :: c45 :: c46 :: c47 :: c48 :: c49 :: c50 :: c51 :: c52 :: c53 :: c54 :: c55 :: c56 :: c57 :: c58 :: c59 :: c60 :: c61 :: c62 :: c63 :: c64 :: c65 :: c66 :: c67 :: c68 :: c69 :: c70 :: c71 :: c72 :: c73 :: c74 :: c75 :: c76 :: c77 :: c78 :: c79 :: c80 :: c81 :: c82 :: c83 :: c84 :: c85 :: c86 :: c87 :: c88 :: c89 :: c90 :: c91 :: c92 :: c93 :: c94 :: c95 :: c96 :: c97 :: c98 :: c99 :: c100 :: c101 :: c102 :: c103 :: c104 :: c105 :: c106 :: c107 :: c108 :: c109 :: c110 :: c111 :: c112 :: c113 :: c114 :: c115 :: c116 :: c117 :: c118 :: c119 :: c120 :: c121 :: c122 :: c123 :: c124 :: c125 :: c126 :: c127 :: c128 :: c129 :: c130 :: c131 :: c132 :: c133 :: c134 :: c135 :: c136 :: c137 :: c138 :: c139 :: c140 :: c141 :: c142 :: c143 :: c144 :: c145 :: c146 :: c147 :: c148 :: c149 :: c150 :: c151 :: c152 :: c153 :: c154 :: c155 :: c156 :: c157 :: c158 :: c159 :: c160 :: c161 :: c162 :: c163 :: c164 :: c165 :: c166 :: c167 :: c168 :: c169 :: u170 :: u171 :: u172 :: u173 :: u174 :: u175 :: u176 :: u177 :: u178 :: u179 :: u180 :: u181 :: u182 :: u183 :: u184 :: u185 :: u186 :: u187 :: u188 :: u189 :: u190 :: u191 :: u192 :: u193 :: u194 :: u195 :: u196 :: u197 :: u198 :: u199 :: c200 :: c201 :: c202 :: c203 :: c204 :: c205 :: c206 :: c207 :: c208 :: c209 :: c210 :: c211 :: c212 :: c213 :: c214 :: c215 :: c216 :: c217 :: c218 :: c219 :: c220 :: c221 :: c222 :: c223 :: c224 :: c225 :: c226 :: c227 :: c228 :: c229 :: c230 :: c231 :: c232 :: c233 :: c234 :: c235 :: c236 :: c237 :: c238 :: c239 :: c240 :: c241 :: c242 :: c243 :: c244 :: c245 :: c246 :: c247 :: c248 :: c249 :: c250 :: c251 :: c252 :: c253 :: c254 :: c255 :: c256 :: []).toArray, []⟩ W') :
    Code.wp Try.prog (Code.loop lookBody) Qx ⟨(c0 :: c1 :: c2 :: c3 :: c4 :: c5 :: c6 :: c7 :: (.pointer (some ⟨w1.heap.size, 0, none⟩)) :: c9 :: c10 :: (.pointer (some ⟨bt, 0, none⟩)) :: (.int .i64 0) :: c13 :: c14 :: c15 :: c16 :: c17 :: c18 :: c19 :: c20 :: c21 :: c22 :: c23 :: c24 :: c25 :: c26 :: c27 :: c28 :: c29 :: c30 :: c31 :: c32 :: c33 :: c34 :: c35 :: c36 :: c37 :: c38 :: c39 :: c40 :: c41 :: c42 :: c43 :: c44 :: c45 :: c46 :: c47 :: c48 :: c49 :: c50 :: c51 :: c52 :: c53 :: c54 :: c55 :: c56 :: c57 :: c58 :: c59 :: c60 :: c61 :: c62 :: c63 :: c64 :: c65 :: c66 :: c67 :: c68 :: c69 :: c70 :: c71 :: c72 :: c73 :: c74 :: c75 :: c76 :: c77 :: c78 :: c79 :: c80 :: c81 :: c82 :: c83 :: c84 :: c85 :: c86 :: c87 :: c88 :: c89 :: c90 :: c91 :: c92 :: c93 :: c94 :: c95 :: c96 :: c97 :: c98 :: c99 :: c100 :: c101 :: c102 :: c103 :: c104 :: c105 :: c106 :: c107 :: c108 :: c109 :: c110 :: c111 :: c112 :: c113 :: c114 :: c115 :: c116 :: c117 :: c118 :: c119 :: c120 :: c121 :: c122 :: c123 :: c124 :: c125 :: c126 :: c127 :: c128 :: c129 :: c130 :: c131 :: c132 :: c133 :: c134 :: c135 :: c136 :: c137 :: c138 :: c139 :: c140 :: c141 :: c142 :: c143 :: c144 :: c145 :: c146 :: c147 :: c148 :: c149 :: c150 :: c151 :: c152 :: c153 :: c154 :: c155 :: c156 :: c157 :: c158 :: c159 :: c160 :: c161 :: c162 :: c163 :: c164 :: c165 :: c166 :: c167 :: c168 :: c169 :: c170 :: c171 :: c172 :: c173 :: c174 :: c175 :: c176 :: c177 :: c178 :: c179 :: c180 :: c181 :: c182 :: c183 :: c184 :: c185 :: c186 :: c187 :: c188 :: c189 :: c190 :: c191 :: c192 :: c193 :: c194 :: c195 :: c196 :: c197 :: c198 :: c199 :: c200 :: c201 :: c202 :: c203 :: c204 :: c205 :: c206 :: c207 :: c208 :: c209 :: c210 :: c211 :: c212 :: c213 :: c214 :: c215 :: c216 :: c217 :: c218 :: c219 :: c220 :: c221 :: c222 :: c223 :: c224 :: c225 :: c226 :: c227 :: c228 :: c229 :: c230 :: c231 :: c232 :: c233 :: c234 :: c235 :: c236 :: c237 :: c238 :: c239 :: c240 :: c241 :: c242 :: c243 :: c244 :: c245 :: c246 :: c247 :: c248 :: c249 :: c250 :: c251 :: c252 :: c253 :: c254 :: c255 :: c256 :: []).toArray, []⟩ wK := by
  conv => arg 2; arg 1; whnf
  have Hnt := Lib.hid hnt
  have HQL := Lib.hid hQ
  have Hex := Lib.hid hexit
  obtain ⟨X, hX⟩ : ∃ X, X = loopQ T [45, 62] (lookQ1 T NS) (fuelQ T D6) 0 ⟨D6, [], [], []⟩ := ⟨_, rfl⟩
  have HX := Lib.hid hX
  have HfL : Hid (1 ≤ fuelQ T D6 ∧ fuelQ T D6 ≤ nt + 1 ∧ (D6.e = 0 → T.length - D6.i + 1 ≤ fuelQ T D6)) := Lib.hid (by
    have h1 := Hnt.out
    unfold fuelQ
    by_cases h : D6.e = 0
    · rw [if_pos h]; exact ⟨by omega, by omega, fun _ => Nat.le_refl _⟩
    · rw [if_neg h]; exact ⟨by omega, by omega, fun e => absurd e h⟩)
  clear hnt hQ hexit hX
  go_loopg [12] (fuelQ T D6) (fun k s12 wc => ∃ j : Nat, s12 = .int .i64 j ∧ j + k ≤ nt + 1 ∧ ∃ x v1 v2 v3, Q w1 wc w1.heap.size T NS (qTr bt nm dl pr v1 v2 v3 x.inn x.nt x.out) x.D ∧ 1 ≤ k ∧ (x.D.e = 0 → T.length - x.D.i + 1 ≤ k ∧ x.inn.length ≤ 8 ∧ x.nt.length ≤ 8) ∧ x.inn.length ≤ 9 ∧ x.nt.length ≤ 9 ∧ x.out = [] ∧ Hid (X = loopQ T [45, 62] (lookQ1 T NS) k j x))
  case atStart => exact ⟨0, rfl, by have := HfL.out.2.1; omega, ⟨D6, [], [], []⟩, _, _, _, HQL.out, HfL.out.1, fun e => ⟨HfL.out.2.2 e, by simp, by simp⟩, by simp, by simp, rfl, HX⟩
  case round =>
    rename World => wM
    obtain ⟨j, rfl, hjk, x, v1, v2, v3, hQ, hk1', hkf, hl1, hl2, hxo, Hk⟩ := hrel
    obtain ⟨k', rfl⟩ : ∃ k', gk = k' + 1 := ⟨gk - 1, by omega⟩
    obtain ⟨A1, N1, C1, rfl⟩ := hQ.arcForm (v := v1) (l := x.inn) (by simp [qTr])
    obtain ⟨A2, N2, C2, rfl⟩ := hQ.arcForm (v := v2) (l := x.nt) (by simp [qTr])
    obtain ⟨A3, N3, C3, rfl⟩ := hQ.arcForm (v := v3) (l := x.out) (by simp [qTr])
    obtain ⟨_, _, _, _, _, _, _, hC, -⟩ := hQ.cells
    have c2 := hC.c2
    have rlt := hC.lt
    have HQM := Lib.hid hQ
    have Hkf := Lib.hid hkf
    have Hxo := Lib.hid hxo
    clear hC hQ hkf
    go_upto_region 33 with (fail)
    go_cut [8, 11, 12, 179] from 170 to 199 (fun s8 s11 sj sr wc => s8 = .pointer (some ⟨w1.heap.size, 0, none⟩) ∧ s11 = .pointer (some ⟨bt, 0, none⟩) ∧ sj = .int .i64 (j : Int) ∧ sr = .bool (decide (x.D.e = 0) && !seesD T 3 [45, 62] x.D) ∧ Q w1 wc w1.heap.size T NS (qTr bt nm dl pr (.slice A1 N1 C1) (.slice A2 N2 C2) (.slice A3 N3 C3) x.inn x.nt x.out) x.D)
    case first =>
      by_cases he : x.D.e = 0
      · have hse := sees_any HQM.out 3 [45, 62]
        obtain ⟨s, hs⟩ : ∃ s, s = seesD T 3 [45, 62] x.D := ⟨_, rfl⟩
        rw [← hs] at hse
        have Hs := Lib.hid hs
        have Hhe := Lib.hid he
        rw [he] at c2
        clear hs he
        go_wp2_with fail
        refine hse.mono ?_
        rintro e wn ⟨rfl, hbn⟩
        have HQn := Lib.hid (HQM.out.go hbn)
        clear hse hbn c2 HQM
        go_wp2
        go_meet
        case rel => exact ⟨rfl, rfl, rfl, by rw [← Hs.out, decide_eq_true Hhe.out]; rfl, HQn.out⟩
      · have heb : (x.D.e == 0) = false := by simpa using he
        have Hhe := Lib.hid he
        clear he
        go_wp2
        go_meet
        case rel => exact ⟨rfl, rfl, rfl, by rw [decide_eq_false Hhe.out]; rfl, HQM.out⟩
    case rest =>
      obtain ⟨rfl, rfl, rfl, rfl, hQN⟩ := hcut
      rename World => wN
      have HQN := Lib.hid hQN
      obtain ⟨g, hg⟩ : ∃ g, g = (decide (x.D.e = 0) && !seesD T 3 [45, 62] x.D) := ⟨_, rfl⟩
      rw [← hg]
      have Hg := Lib.hid hg
      clear hQN c2 rlt HQM hg
      cases g with
      | true =>
        have hgb : x.D.e = 0 ∧ seesD T 3 [45, 62] x.D = false := by have := Hg.out.symm; simpa using this
        have Hkx : Hid (X = loopQ T [45, 62] (lookQ1 T NS) k' (j + 1) (lookQ1 T NS j x)) := Lib.hid (by rw [Hk.out, loopQ_go hgb])
        have hkk := Hkf.out hgb.1
        have Hke : Hid (T.length - x.D.i + 1 ≤ k' + 1 ∧ x.D.i < T.length) := Lib.hid ⟨hkk.1, HQN.out.1⟩
        obtain ⟨-, hb8, hb9⟩ := hkk
        clear hgb
        go_upto_if 183 with (fail)
        go_cut [8, 11, 12] from 170 to 199 (fun s8 s11 sj wc => s8 = .pointer (some ⟨w1.heap.size, 0, none⟩) ∧ s11 = .pointer (some ⟨bt, 0, none⟩) ∧ sj = .int .i64 (j : Int) ∧ Q w1 wc w1.heap.size T NS (qTr bt nm dl pr (.slice A1 N1 C1) (.slice A2 N2 C2) (.slice A3 N3 C3) x.inn x.nt x.out) (commaD T j x.D))
        case first =>
          by_cases hj0 : 0 < j
          · have hj0i : (0 : Int) < (j : Int) := by omega
            have Hcd : Hid (commaD T j x.D = signD T [44] x.D) := Lib.hid (by unfold commaD; rw [if_pos hj0])
            have hsg := sign_any HQN.out [44]
            rw [← Hcd.out] at hsg
            go_wp2_with fail
            refine hsg.mono ?_
            rintro e wo ⟨rfl, hQO⟩
            have HQO := Lib.hid hQO
            clear hsg hQO
            go_wp2
            go_meet
            case rel => exact ⟨rfl, rfl, rfl, HQO.out⟩
          · have hj0i : ¬ (0 : Int) < (j : Int) := by omega
            have Hcd : Hid (commaD T j x.D = x.D) := Lib.hid (by unfold commaD; rw [if_neg hj0])
            go_wp2
            go_meet
            case rel => exact ⟨rfl, rfl, rfl, by rw [Hcd.out]; exact HQN.out⟩
        case rest =>
          obtain ⟨rfl, rfl, rfl, hQO⟩ := hcut
          obtain ⟨D1, hD1⟩ : ∃ D1, D1 = commaD T j x.D := ⟨_, rfl⟩
          rw [← hD1] at hQO
          have HD1 := Lib.hid hD1
          clear hD1 HQN
          obtain ⟨sq, hsq⟩ : ∃ s, s = seesD T 3 [126] D1 := ⟨_, rfl⟩
          have hse := sees_any hQO 3 [126]
          rw [← hsq] at hse
          have Hsq := Lib.hid hsq
          have HQO := Lib.hid hQO
          clear hsq hQO
          go_wp2_with fail
          refine hse.mono ?_
          rintro e wp ⟨rfl, hbp⟩
          have HQp := Lib.hid (HQO.out.go hbp)
          clear hse hbp HQO
          cases sq with
          | true =>
            have HLk : Hid (lookQ1 T NS j x = ⟨(arcD T NS x.nt (stepD T D1)).2, x.inn, (arcD T NS x.nt (stepD T D1)).1, x.out⟩) := Lib.hid (by unfold lookQ1; rw [← HD1.out, if_pos Hsq.out.symm])
            have hst := step_any HQp.out
            go_wp2_with fail
            refine hst.mono ?_
            rintro e wq ⟨rfl, hQQ⟩
            clear hst HQp
            have hac := parc_any (pre := [boxRow bt 40 [.string nm, .int .i64 dl, .int .i64 pr, .slice A1 N1 C1, .slice A2 N2 C2, .slice A3 N3 C3], arcRow (.slice A1 N1 C1) x.inn]) (v := (.slice A2 N2 C2)) (la := x.nt) (post := [arcRow (.slice A3 N3 C3) x.out]) hQQ (by omega)
            have Hon2 : Hid ((arcD T NS x.nt (stepD T D1)).2.e = 0 → ((stepD T D1)).i < (arcD T NS x.nt (stepD T D1)).2.i ∧ (x.nt.length ≤ 8 → (arcD T NS x.nt (stepD T D1)).1.length ≤ 8)) := Lib.hid (fun e => arcD_on hQQ.2.1 e)
            have Hln2 : Hid ((arcD T NS x.nt (stepD T D1)).1.length ≤ x.nt.length + 1) := Lib.hid (arcD_adv x.nt).2
            obtain ⟨x1, x2, x3⟩ := hQQ.boxAt (b := bt) (t := 40) (cs := [.string nm, .int .i64 dl, .int .i64 pr, .slice A1 N1 C1, .slice A2 N2 C2, .slice A3 N3 C3]) (by simp [qTr])
            have y4 := x1 4 _ rfl
            clear hQQ x1 x2
            go_wp2_with fail
            refine hac.mono ?_
            rintro e wT ⟨v9, rfl, hQS⟩
            obtain ⟨a9, n9, c9, rfl⟩ := hQS.arcForm (v := v9) (l := (arcD T NS x.nt (stepD T D1)).1) (by simp)
            obtain ⟨x1, x2, x4⟩ := hQS.boxAt (b := bt) (t := 40) (cs := [.string nm, .int .i64 dl, .int .i64 pr, .slice A1 N1 C1, .slice A2 N2 C2, .slice A3 N3 C3]) (by simp)
            have z4 := x1 4 _ rfl
            have zf := x2 4
            have HQT := Lib.hid (hQS.setRow (pre := []) (b := bt) (t := 40) (cs := [.string nm, .int .i64 dl, .int .i64 pr, .slice A1 N1 C1, .slice A2 N2 C2, .slice A3 N3 C3]) (post := [arcRow (.slice A1 N1 C1) x.inn, arcRow (.slice a9 n9 c9) (arcD T NS x.nt (stepD T D1)).1, arcRow (.slice A3 N3 C3) x.out]) 4 (.slice a9 n9 c9))
            clear hac hQS x1 x2 y4 x3
            go_wp2
            go_roundg k'
            case rel =>
              refine ⟨j + 1, by go_num, by omega, lookQ1 T NS j x, (.slice A1 N1 C1), (.slice a9 n9 c9), (.slice A3 N3 C3), ?_, by have := Hke.out; omega, ?_, ?_, ?_, ?_, Hkx⟩
              · rw [HLk.out]; exact HQT.out
              · intro e
                rw [HLk.out] at e ⊢
                obtain ⟨h1, h2⟩ := Hon2.out e
                have h3 := (commaD_adv (T := T) (D := x.D) j).i
                rw [← HD1.out] at h3
                have h4 := (stepD_adv (T := T) (D := D1)).i
                have h5 := Hke.out
                simp only at h1 h2 ⊢
                exact ⟨by omega, by omega, h2 (by omega)⟩
              · rw [HLk.out]; exact hl1
              · rw [HLk.out]; have := Hln2.out; simp only; omega
              · rw [HLk.out]; exact Hxo.out
            case measure => omega
          | false =>
            have HLk : Hid (lookQ1 T NS j x = ⟨(arcD T NS x.inn D1).2, (arcD T NS x.inn D1).1, x.nt, x.out⟩) := Lib.hid (by unfold lookQ1; rw [← HD1.out, if_neg (by rw [← Hsq.out]; simp)])
            have hQQ := HQp.out
            clear HQp
            have hac := parc_any (pre := [boxRow bt 40 [.string nm, .int .i64 dl, .int .i64 pr, .slice A1 N1 C1, .slice A2 N2 C2, .slice A3 N3 C3]]) (v := (.slice A1 N1 C1)) (la := x.inn) (post := [arcRow (.slice A2 N2 C2) x.nt, arcRow (.slice A3 N3 C3) x.out]) hQQ (by omega)
            have Hon2 : Hid ((arcD T NS x.inn D1).2.e = 0 → (D1).i < (arcD T NS x.inn D1).2.i ∧ (x.inn.length ≤ 8 → (arcD T NS x.inn D1).1.length ≤ 8)) := Lib.hid (fun e => arcD_on hQQ.2.1 e)
            have Hln2 : Hid ((arcD T NS x.inn D1).1.length ≤ x.inn.length + 1) := Lib.hid (arcD_adv x.inn).2
            obtain ⟨x1, x2, x3⟩ := hQQ.boxAt (b := bt) (t := 40) (cs := [.string nm, .int .i64 dl, .int .i64 pr, .slice A1 N1 C1, .slice A2 N2 C2, .slice A3 N3 C3]) (by simp [qTr])
            have y4 := x1 3 _ rfl
            clear hQQ x1 x2
            go_wp2_with fail
            refine hac.mono ?_
            rintro e wT ⟨v9, rfl, hQS⟩
            obtain ⟨a9, n9, c9, rfl⟩ := hQS.arcForm (v := v9) (l := (arcD T NS x.inn D1).1) (by simp)
            obtain ⟨x1, x2, x4⟩ := hQS.boxAt (b := bt) (t := 40) (cs := [.string nm, .int .i64 dl, .int .i64 pr, .slice A1 N1 C1, .slice A2 N2 C2, .slice A3 N3 C3]) (by simp)
            have z4 := x1 3 _ rfl
            have zf := x2 3
            have HQT := Lib.hid (hQS.setRow (pre := []) (b := bt) (t := 40) (cs := [.string nm, .int .i64 dl, .int .i64 pr, .slice A1 N1 C1, .slice A2 N2 C2, .slice A3 N3 C3]) (post := [arcRow (.slice a9 n9 c9) (arcD T NS x.inn D1).1, arcRow (.slice A2 N2 C2) x.nt, arcRow (.slice A3 N3 C3) x.out]) 3 (.slice a9 n9 c9))
            clear hac hQS x1 x2 y4 x3
            go_wp2
            go_roundg k'
            case rel =>
              refine ⟨j + 1, by go_num, by omega, lookQ1 T NS j x, (.slice a9 n9 c9), (.slice A2 N2 C2), (.slice A3 N3 C3), ?_, by have := Hke.out; omega, ?_, ?_, ?_, ?_, Hkx⟩
              · rw [HLk.out]; exact HQT.out
              · intro e
                rw [HLk.out] at e ⊢
                obtain ⟨h1, h2⟩ := Hon2.out e
                have h3 := (commaD_adv (T := T) (D := x.D) j).i
                rw [← HD1.out] at h3
                have h5 := Hke.out
                simp only at h1 h2 ⊢
                exact ⟨by omega, h2 (by omega), by omega⟩
              · rw [HLk.out]; have := Hln2.out; simp only; omega
              · rw [HLk.out]; exact hl2
              · rw [HLk.out]; exact Hxo.out
            case measure => omega
      | false =>
        have hgg : Hid (¬ (x.D.e = 0 ∧ seesD T 3 [45, 62] x.D = false)) := Lib.hid (by
          rintro ⟨e1, e2⟩
          have := Hg.out
          rw [decide_eq_true e1, e2] at this
          cases this)
        have hXx : x = loopQ T [45, 62] (lookQ1 T NS) (fuelQ T D6) 0 ⟨D6, [], [], []⟩ := by rw [← HX.out, Hk.out, loopQ_stop hgg.out]
        have HXx := Lib.hid hXx
        clear hXx
        go_wp2
        exact Hex.out x A1 N1 C1 A2 N2 C2 A3 N3 C3 _ _ _ _ _ _ _ _ _ _ _ _ _ _ _ _ _ _ _ _ _ _ _ _ _ _ _ _ _ _ _ _ HQN.out HXx.out Hxo.out
end Go.Proofs.Ytfiielibnnodkaa

/-! ## QLoopB -/
namespace Go.Proofs.Ytfiielibnnodkaa
open Go.RowKit
set_option linter.unusedVariables false


noncomputable def outsBody : Code := ((Try.f27.body.map loopsOf).getD []).getD 3 .skip

set_option maxRecDepth 1000000 in
set_option maxHeartbeats 8000000 in
theorem outs_loop {w1 wK : World} {T : List Tok} {NS : List ByteArray} {bt : Nat} {nm : ByteArray} {dl pr : Int} {D7 : QD} {I0 N0 : List (Int × Int)} {V1 V2 V3 : Value} {nt : Nat} {c0 c1 c2 c3 c4 c5 c6 c7 c9 c10 c12 c14 c15 c16 c17 c18 c19 c20 c21 c22 c23 c24 c25 c26 c27 c28 c29 c30 c31 c32 c33 c34 c35 c36 c37 c38 c39 c40 c41 c42 c43 c44 c45 c46 c47 c48 c49 c50 c51 c52 c53 c54 c55 c56 c57 c58 c59 c60 c61 c62 c63 c64 c65 c66 c67 c68 c69 c70 c71 c72 c73 c74 c75 c76 c77 c78 c79 c80 c81 c82 c83 c84 c85 c86 c87 c88 c89 c90 c91 c92 c93 c94 c95 c96 c97 c98 c99 c100 c101 c102 c103 c104 c105 c106 c107 c108 c109 c110 c111 c112 c113 c114 c115 c116 c117 c118 c119 c120 c121 c122 c123 c124 c125 c126 c127 c128 c129 c130 c131 c132 c133 c134 c135 c136 c137 c138 c139 c140 c141 c142 c143 c144 c145 c146 c147 c148 c149 c150 c151 c152 c153 c154 c155 c156 c157 c158 c159 c160 c161 c162 c163 c164 c165 c166 c167 c168 c169 c170 c171 c172 c173 c174 c175 c176 c177 c178 c179 c180 c181 c182 c183 c184 c185 c186 c187 c188 c189 c190 c191 c192 c193 c194 c195 c196 c197 c198 c199 c200 c201 c202 c203 c204 c205 c206 c207 c208 c209 c210 c211 c212 c213 c214 c215 c216 c217 c218 c219 c220 c221 c222 c223 c224 c225 c226 c227 c228 c229 c230 c231 c232 c233 c234 c235 c236 c237 c238 c239 c240 c241 c242 c243 c244 c245 c246 c247 c248 c249 c250 c251 c252 c253 c254 c255 c256 : Value} {Qx : Exit → Act → World → Prop}
    (hnt : nt = T.length) (htl2 : nt ≤ 800001) (hQ : Q w1 wK w1.heap.size T NS (qTr bt nm dl pr V1 V2 V3 I0 N0 []) D7)
    (hexit : ∀ (y : LQ) (A1 : Option Addr) (N1 C1 : Nat) (A2 : Option Addr) (N2 C2 : Nat) (A3 : Option Addr) (N3 C3 : Nat) (u13 u202 u203 u204 u205 u206 u207 u208 u209 u210 u211 u212 u213 u214 u215 u216 u217 u218 u219 u220 u221 u222 : Value) (W' : World), Q w1 W' w1.heap.size T NS (qTr bt nm dl pr (.slice A1 N1 C1) (.slice A2 N2 C2) (.slice A3 N3 C3) y.inn y.nt y.out) y.D → y = loopQ T [59] (outQ1 T NS) (fuelQ T D7) 0 ⟨D7, I0, N0, []⟩ → True → Qx (.exit 6) ⟨(c0 :: c1 :: c2 :: c3 :: c4 :: c5 :: c6 :: c7 :: (.pointer (some ⟨w1.heap.size, 0, none⟩)) :: c9 :: c10 :: (.pointer (some ⟨bt, 0, none⟩)) :: c12 :: u13 :: c14 :: c15 :: c16 :: c17 :: c18 :: c19 :: c20 :: c21 :: c22 :: c23 :: c24 :: c25 :: c26 :: c27 :: c28 :: c29 :: c30 :: c31 :: c32 :: c33 :: c34 :: c35 :: c36 :: c37 :: c38 :: c39 :: c40 :: c41 :: c42 :: c43 :: c44 :: c45 :: c46 :: c47 :: c48 :: c49 :: c50 :: c51 :: c52 :: c53 :: c54 :: c55 :: c56 :: c57 :: c58 :: c59 :: c60 :: c61 :: c62 :: c63 :: c64 :: c65 :: c66 :: c67 :: c68 :: c69 :: c70 :: c71 :: c72 :: c73 :: c74 :: c75 :: c76 :: c77 :: c78 :: c79 :: c80 :: c81 :: c82 :: c83 :: c84 :: c85 :: c86 :: c87 :: c88 :: c89 :: c90 :: c91 :: c92 :: c93 :: c94 :: c95 :: c96 :: c97 :: c98 :: c99 :: c100 :: c101 :: c102 :: c103 :: c104 :: c105 :: c106 :: c107 :: c108 :: c109 :: c110 :: c111 :: c112 :: c113 :: c114 :: c115 :: c116 :: c117 :: c118 :: c119 :: c120 :: c121 :: c122 :: c123 :: c124 :: c125 :: c126 :: c127 :: c128 :: c129 :: c130 :: c131 :: c132 :: c133 :: c134 :: c135 :: c136 :: c137 :: c138 :: c139 :: c140 :: c141 :: c142 :: c143 :: c144 :: c145 :: c146 :: c147 :: c148 :: c149 :: c150 :: c151 :: c152 :: c153 :: c154 :: c155 :: c156 :: c157 :: c158 :: c159 :: c160 :: c161 :: c162 :: c163 :: c164 :: c165 :: c166 :: c167 :: c168 :: c169 :: c170 :: c171 :: c172 :: c173 :: c174 :: c175 :: c176 :: c177 :: c178 :: c179 :: c180 :: c181 :: c182 :: c183 :: c184 :: c185 :: c186 :: c187 :: c188 :: c189 :: c190 :: c191 :: c192 :: c193 :: c194 :: c195 :: c196 :: c197 :: c198 :: c199 :: c200 :: c201 :: u202 :: u203 :: u204 :: u205 :: u206 :: u207 :: u208 :: u209 :: u210 :: u211 :: u212 :: u213 :: u214 :: u215 :: u216 :: u217 :: u218 :: u219 :: u220 :: u221 :: u222 :: c223 :: c224 :: c225 :: c226 :: c227 :: c228 :: c229 :: c230 :: c231 :: c232 :: c233 :: c234 :: c235 :: c236 :: c237 :: c238 :: c239 :: c240 :: c241 :: c242 :: c243 :: c244 :: c245 :: c246 :: c247 :: c248 :: c249 :: c250 :: c251 :: c252 :: c253 :: c254 :: c255 :: c256 :: []).toArray, []⟩ W') :
    Code.wp Try.prog (Code.loop outsBody) Qx ⟨(c0 :: c1 :: c2 :: c3 :: c4 :: c5 :: c6 :: c7 :: (.pointer (some ⟨w1.heap.size, 0, none⟩)) :: c9 :: c10 :: (.pointer (some ⟨bt, 0, none⟩)) :: c12 :: (.int .i64 0) :: c14 :: c15 :: c16 :: c17 :: c18 :: c19 :: c20 :: c21 :: c22 :: c23 :: c24 :: c25 :: c26 :: c27 :: c28 :: c29 :: c30 :: c31 :: c32 :: c33 :: c34 :: c35 :: c36 :: c37 :: c38 :: c39 :: c40 :: c41 :: c42 :: c43 :: c44 :: c45 :: c46 :: c47 :: c48 :: c49 :: c50 :: c51 :: c52 :: c53 :: c54 :: c55 :: c56 :: c57 :: c58 :: c59 :: c60 :: c61 :: c62 :: c63 :: c64 :: c65 :: c66 :: c67 :: c68 :: c69 :: c70 :: c71 :: c72 :: c73 :: c74 :: c75 :: c76 :: c77 :: c78 :: c79 :: c80 :: c81 :: c82 :: c83 :: c84 :: c85 :: c86 :: c87 :: c88 :: c89 :: c90 :: c91 :: c92 :: c93 :: c94 :: c95 :: c96 :: c97 :: c98 :: c99 :: c100 :: c101 :: c102 :: c103 :: c104 :: c105 :: c106 :: c107 :: c108 :: c109 :: c110 :: c111 :: c112 :: c113 :: c114 :: c115 :: c116 :: c117 :: c118 :: c119 :: c120 :: c121 :: c122 :: c123 :: c124 :: c125 :: c126 :: c127 :: c128 :: c129 :: c130 :: c131 :: c132 :: c133 :: c134 :: c135 :: c136 :: c137 :: c138 :: c139 :: c140 :: c141 :: c142 :: c143 :: c144 :: c145 :: c146 :: c147 :: c148 :: c149 :: c150 :: c151 :: c152 :: c153 :: c154 :: c155 :: c156 :: c157 :: c158 :: c159 :: c160 :: c161 :: c162 :: c163 :: c164 :: c165 :: c166 :: c167 :: c168 :: c169 :: c170 :: c171 :: c172 :: c173 :: c174 :: c175 :: c176 :: c177 :: c178 :: c179 :: c180 :: c181 :: c182 :: c183 :: c184 :: c185 :: c186 :: c187 :: c188 :: c189 :: c190 :: c191 :: c192 :: c193 :: c194 :: c195 :: c196 :: c197 :: c198 :: c199 :: c200 :: c201 :: c202 :: c203 :: c204 :: c205 :: c206 :: c207 :: c208 :: c209 :: c210 :: c211 :: c212 :: c213 :: c214 :: c215 :: c216 :: c217 :: c218 :: c219 :: c220 :: c221 :: c222 :: c223 :: c224 :: c225 :: c226 :: c227 :: c228 :: c229 :: c230 :: c231 :: c232 :: c233 :: c234 :: c235 :: c236 :: c237 :: c238 :: c239 :: c240 :: c241 :: c242 :: c243 :: c244 :: c245 :: c246 :: c247 :: c248 :: c249 :: c250 :: c251 :: c252 :: c253 :: c254 :: c255 :: c256 :: []).toArray, []⟩ wK := by
  conv => arg 2; arg 1; whnf
  have Hnt := Lib.hid hnt
  have HQP := Lib.hid hQ
  have Hex := Lib.hid hexit
  obtain ⟨Y, hY⟩ : ∃ Y, Y = loopQ T [59] (outQ1 T NS) (fuelQ T D7) 0 ⟨D7, I0, N0, []⟩ := ⟨_, rfl⟩
  have HY := Lib.hid hY
  have HfP : Hid (1 ≤ fuelQ T D7 ∧ fuelQ T D7 ≤ nt + 1 ∧ (D7.e = 0 → T.length - D7.i + 1 ≤ fuelQ T D7)) := Lib.hid (by
    have h1 := Hnt.out
    unfold fuelQ
    by_cases h : D7.e = 0
    · rw [if_pos h]; exact ⟨by omega, by omega, fun _ => Nat.le_refl _⟩
    · rw [if_neg h]; exact ⟨by omega, by omega, fun e => absurd e h⟩)
  clear hnt hQ hexit hY
  go_loopg [13] (fuelQ T D7) (fun k s13 wc => ∃ j : Nat, s13 = .int .i64 j ∧ j + k ≤ nt + 1 ∧ ∃ y v1 v2 v3, Q w1 wc w1.heap.size T NS (qTr bt nm dl pr v1 v2 v3 y.inn y.nt y.out) y.D ∧ 1 ≤ k ∧ (y.D.e = 0 → T.length - y.D.i + 1 ≤ k ∧ y.out.length ≤ 8) ∧ y.out.length ≤ 9 ∧ Hid (Y = loopQ T [59] (outQ1 T NS) k j y))
  case atStart => exact ⟨0, rfl, by have := HfP.out.2.1; omega, ⟨D7, I0, N0, []⟩, _, _, _, HQP.out, HfP.out.1, fun e => ⟨HfP.out.2.2 e, by simp⟩, by simp, HY⟩
  case round =>
    rename World => wR
    obtain ⟨j, rfl, hjk, y, v1, v2, v3, hQ, hk1', hkf, hl1, Hk⟩ := hrel
    obtain ⟨k', rfl⟩ : ∃ k', gk = k' + 1 := ⟨gk - 1, by omega⟩
    obtain ⟨A1, N1, C1, rfl⟩ := hQ.arcForm (v := v1) (l := y.inn) (by simp [qTr])
    obtain ⟨A2, N2, C2, rfl⟩ := hQ.arcForm (v := v2) (l := y.nt) (by simp [qTr])
    obtain ⟨A3, N3, C3, rfl⟩ := hQ.arcForm (v := v3) (l := y.out) (by simp [qTr])
    obtain ⟨_, _, _, _, _, _, _, hC, -⟩ := hQ.cells
    have c2 := hC.c2
    have rlt := hC.lt
    have HQM := Lib.hid hQ
    have Hkf := Lib.hid hkf
    have Hl1 := Lib.hid hl1
    clear hC hQ hkf
    go_upto_region 43 with (fail)
    go_cut [8, 11, 13, 211] from 202 to 222 (fun s8 s11 sj sr wc => s8 = .pointer (some ⟨w1.heap.size, 0, none⟩) ∧ s11 = .pointer (some ⟨bt, 0, none⟩) ∧ sj = .int .i64 (j : Int) ∧ sr = .bool (decide (y.D.e = 0) && !seesD T 3 [59] y.D) ∧ Q w1 wc w1.heap.size T NS (qTr bt nm dl pr (.slice A1 N1 C1) (.slice A2 N2 C2) (.slice A3 N3 C3) y.inn y.nt y.out) y.D)
    case first =>
      by_cases he : y.D.e = 0
      · have hse := sees_any HQM.out 3 [59]
        obtain ⟨s, hs⟩ : ∃ s, s = seesD T 3 [59] y.D := ⟨_, rfl⟩
        rw [← hs] at hse
        have Hs := Lib.hid hs
        have Hhe := Lib.hid he
        rw [he] at c2
        clear hs he
        go_wp2_with fail
        refine hse.mono ?_
        rintro e wn ⟨rfl, hbn⟩
        have HQn := Lib.hid (HQM.out.go hbn)
        clear hse hbn c2 HQM
        go_wp2
        go_meet
        case rel => exact ⟨rfl, rfl, rfl, by rw [← Hs.out, decide_eq_true Hhe.out]; rfl, HQn.out⟩
      · have heb : (y.D.e == 0) = false := by simpa using he
        have Hhe := Lib.hid he
        clear he
        go_wp2
        go_meet
        case rel => exact ⟨rfl, rfl, rfl, by rw [decide_eq_false Hhe.out]; rfl, HQM.out⟩
    case rest =>
      obtain ⟨rfl, rfl, rfl, rfl, hQN⟩ := hcut
      rename World => wS
      have HQN := Lib.hid hQN
      obtain ⟨g, hg⟩ : ∃ g, g = (decide (y.D.e = 0) && !seesD T 3 [59] y.D) := ⟨_, rfl⟩
      rw [← hg]
      have Hg := Lib.hid hg
      clear hQN c2 rlt HQM hg
      cases g with
      | true =>
        have hgb : y.D.e = 0 ∧ seesD T 3 [59] y.D = false := by have := Hg.out.symm; simpa using this
        have Hkx : Hid (Y = loopQ T [59] (outQ1 T NS) k' (j + 1) (outQ1 T NS j y)) := Lib.hid (by rw [Hk.out, loopQ_go hgb])
        have hkk := Hkf.out hgb.1
        have Hke : Hid (T.length - y.D.i + 1 ≤ k' + 1 ∧ y.D.i < T.length) := Lib.hid ⟨hkk.1, HQN.out.1⟩
        have hb8 := hkk.2
        clear hgb
        go_upto_if 215 with (fail)
        go_cut [8, 11, 13] from 202 to 222 (fun s8 s11 sj wc => s8 = .pointer (some ⟨w1.heap.size, 0, none⟩) ∧ s11 = .pointer (some ⟨bt, 0, none⟩) ∧ sj = .int .i64 (j : Int) ∧ Q w1 wc w1.heap.size T NS (qTr bt nm dl pr (.slice A1 N1 C1) (.slice A2 N2 C2) (.slice A3 N3 C3) y.inn y.nt y.out) (commaD T j y.D))
        case first =>
          by_cases hj0 : 0 < j
          · have hj0i : (0 : Int) < (j : Int) := by omega
            have Hcd : Hid (commaD T j y.D = signD T [44] y.D) := Lib.hid (by unfold commaD; rw [if_pos hj0])
            have hsg := sign_any HQN.out [44]
            rw [← Hcd.out] at hsg
            go_wp2_with fail
            refine hsg.mono ?_
            rintro e wo ⟨rfl, hQO⟩
            have HQO := Lib.hid hQO
            clear hsg hQO
            go_wp2
            go_meet
            case rel => exact ⟨rfl, rfl, rfl, HQO.out⟩
          · have hj0i : ¬ (0 : Int) < (j : Int) := by omega
            have Hcd : Hid (commaD T j y.D = y.D) := Lib.hid (by unfold commaD; rw [if_neg hj0])
            go_wp2
            go_meet
            case rel => exact ⟨rfl, rfl, rfl, by rw [Hcd.out]; exact HQN.out⟩
        case rest =>
          obtain ⟨rfl, rfl, rfl, hQO⟩ := hcut
          obtain ⟨D1, hD1⟩ : ∃ D1, D1 = commaD T j y.D := ⟨_, rfl⟩
          rw [← hD1] at hQO
          have HD1 := Lib.hid hD1
          clear hD1 HQN
          have hQQ := hQO
          have HLk : Hid (outQ1 T NS j y = ⟨(arcD T NS y.out D1).2, y.inn, y.nt, (arcD T NS y.out D1).1⟩) := Lib.hid (by unfold outQ1; rw [← HD1.out])
          clear hQO
          have hac := parc_any (pre := [boxRow bt 40 [.string nm, .int .i64 dl, .int .i64 pr, .slice A1 N1 C1, .slice A2 N2 C2, .slice A3 N3 C3], arcRow (.slice A1 N1 C1) y.inn, arcRow (.slice A2 N2 C2) y.nt]) (v := (.slice A3 N3 C3)) (la := y.out) (post := []) hQQ (by omega)
          have Hon2 : Hid ((arcD T NS y.out D1).2.e = 0 → (D1).i < (arcD T NS y.out D1).2.i ∧ (y.out.length ≤ 8 → (arcD T NS y.out D1).1.length ≤ 8)) := Lib.hid (fun e => arcD_on hQQ.2.1 e)
          have Hln2 : Hid ((arcD T NS y.out D1).1.length ≤ y.out.length + 1) := Lib.hid (arcD_adv y.out).2
          obtain ⟨x1, x2, x3⟩ := hQQ.boxAt (b := bt) (t := 40) (cs := [.string nm, .int .i64 dl, .int .i64 pr, .slice A1 N1 C1, .slice A2 N2 C2, .slice A3 N3 C3]) (by simp [qTr])
          have y4 := x1 5 _ rfl
          clear hQQ x1 x2
          go_wp2_with fail
          refine hac.mono ?_
          rintro e wT ⟨v9, rfl, hQS⟩
          obtain ⟨a9, n9, c9, rfl⟩ := hQS.arcForm (v := v9) (l := (arcD T NS y.out D1).1) (by simp)
          obtain ⟨x1, x2, x4⟩ := hQS.boxAt (b := bt) (t := 40) (cs := [.string nm, .int .i64 dl, .int .i64 pr, .slice A1 N1 C1, .slice A2 N2 C2, .slice A3 N3 C3]) (by simp)
          have z4 := x1 5 _ rfl
          have zf := x2 5
          have HQT := Lib.hid (hQS.setRow (pre := []) (b := bt) (t := 40) (cs := [.string nm, .int .i64 dl, .int .i64 pr, .slice A1 N1 C1, .slice A2 N2 C2, .slice A3 N3 C3]) (post := [arcRow (.slice A1 N1 C1) y.inn, arcRow (.slice A2 N2 C2) y.nt, arcRow (.slice a9 n9 c9) (arcD T NS y.out D1).1]) 5 (.slice a9 n9 c9))
          clear hac hQS x1 x2 y4 x3
          go_wp2
          go_roundg k'
          case rel =>
            refine ⟨j + 1, by go_num, by omega, outQ1 T NS j y, (.slice A1 N1 C1), (.slice A2 N2 C2), (.slice a9 n9 c9), ?_, by have := Hke.out; omega, ?_, ?_, Hkx⟩
            · rw [HLk.out]; exact HQT.out
            · intro e
              rw [HLk.out] at e ⊢
              obtain ⟨h1, h2⟩ := Hon2.out e
              have h3 := (commaD_adv (T := T) (D := y.D) j).i
              rw [← HD1.out] at h3
              have h5 := Hke.out
              simp only at h1 h2 ⊢
              exact ⟨by omega, h2 (by omega)⟩
            · rw [HLk.out]; have := Hln2.out; simp only; omega
          case measure => omega
      | false =>
        have hgg : Hid (¬ (y.D.e = 0 ∧ seesD T 3 [59] y.D = false)) := Lib.hid (by
          rintro ⟨e1, e2⟩
          have := Hg.out
          rw [decide_eq_true e1, e2] at this
          cases this)
        have hYy : y = loopQ T [59] (outQ1 T NS) (fuelQ T D7) 0 ⟨D7, I0, N0, []⟩ := by rw [← HY.out, Hk.out, loopQ_stop hgg.out]
        have HYy := Lib.hid hYy
        clear hYy
        go_wp2
        exact Hex.out y A1 N1 C1 A2 N2 C2 A3 N3 C3 _ _ _ _ _ _ _ _ _ _ _ _ _ _ _ _ _ _ _ _ _ _ _ HQN.out HYy.out trivial
end Go.Proofs.Ytfiielibnnodkaa
