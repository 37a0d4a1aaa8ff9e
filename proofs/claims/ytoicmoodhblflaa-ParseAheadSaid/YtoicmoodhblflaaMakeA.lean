/-
  Drafts that can be read; what the document's own Make has at hand.
  Conditions: none beyond each theorem's own.
-/
import Derived.Test.YtoicmoodhblflaaAllOwn
import Derived.Test.YtoicmoodhblflaaBytes
import Derived.IntWalk
namespace Go.Proofs.Ytoicmoodhblflaa
open Go.RowKit
set_option linter.unusedVariables false

def tokL1 (t : Nat) : List Value := [.int .u8 (t : Int)]
def acL (x : Ac) : List Value := [.int .u8 (x.d : Int), .int .u8 (x.p : Int), .int .u8 (x.i : Int), .int .u8 (x.j : Int), .int .u8 (x.n : Int), .int .u8 (x.o : Int), .int .u8 (x.q : Int)]
theorem tokL1_len (t : Nat) : (tokL1 t).length = 1 := rfl
theorem acL_len (x : Ac) : (acL x).length = 7 := rfl

/-- a draft -/
structure DraftAt (w : World) (vt va : Value) (ts : List Nat) (acs : List Ac) : Prop where
  toks : RowAt 1 w vt ts.length (ts.flatMap tokL1)
  acts : RowAt 7 w va acs.length (acs.flatMap acL)
  small : ∀ t ∈ ts, t < 256
  ok : AllOk acs

theorem DraftAt.below {w w' : World} {vt va : Value} {ts : List Nat} {acs : List Ac} (h : DraftAt w vt va ts acs) (hb : Below w.heap.size w w') : DraftAt w' vt va ts acs :=
  ⟨h.toks.below hb, h.acts.below hb, h.small, h.ok⟩

theorem DraftAt.tok {w : World} {a : Option Addr} {n cap : Nat} {va : Value} {ts : List Nat} {acs : List Ac} (h : DraftAt w (.slice a n cap) va ts acs) {i t : Nat} (hi : ts[i]? = some t) :
    ∃ b off, a = some ⟨b, off, none⟩ ∧ b < w.heap.size ∧ w.cell? ⟨b, off + i, none⟩ = some (.int .u8 (t : Int)) ∧ t < 256 := by
  obtain ⟨b, off, e, hb, hc⟩ := RowAt.elem tokL1_len h.toks hi
  exact ⟨b, off, e, hb, by have := hc 0 _ rfl; simpa using this, h.small t (List.mem_of_getElem? hi)⟩

theorem DraftAt.act {w : World} {a : Option Addr} {n cap : Nat} {vt : Value} {ts : List Nat} {acs : List Ac} (h : DraftAt w vt (.slice a n cap) ts acs) {i : Nat} {x : Ac} (hi : acs[i]? = some x) :
    ∃ b off, a = some ⟨b, off, none⟩ ∧ b < w.heap.size ∧ w.cell? ⟨b, off + i * 7, none⟩ = some (.int .u8 (x.d : Int)) ∧ w.cell? ⟨b, off + i * 7 + 1, none⟩ = some (.int .u8 (x.p : Int)) ∧ w.cell? ⟨b, off + i * 7 + 2, none⟩ = some (.int .u8 (x.i : Int)) ∧
      w.cell? ⟨b, off + i * 7 + 3, none⟩ = some (.int .u8 (x.j : Int)) ∧ w.cell? ⟨b, off + i * 7 + 4, none⟩ = some (.int .u8 (x.n : Int)) ∧ w.cell? ⟨b, off + i * 7 + 5, none⟩ = some (.int .u8 (x.o : Int)) ∧ w.cell? ⟨b, off + i * 7 + 6, none⟩ = some (.int .u8 (x.q : Int)) ∧ x.ok := by
  obtain ⟨b, off, e, hb, hc⟩ := RowAt.elem acL_len h.acts hi
  exact ⟨b, off, e, hb, hc 0 _ rfl, hc 1 _ rfl, hc 2 _ rfl, hc 3 _ rfl, hc 4 _ rfl, hc 5 _ rfl, hc 6 _ rfl, h.ok x (List.mem_of_getElem? hi)⟩

/-- a byte as a text -/
theorem run_conv1 (w : World) (k c : Nat) (h : c + k < 256) : (convert 32 9 (.slice (some ⟨w.heap.size, 0, none⟩) 1 1)).run Try.prog (w.alloc (.cells #[.int .u8 ((c : Int) + (k : Int))] 5)) = .ok (.string (bs [UInt8.ofNat (c + k)])) (w.alloc (.cells #[.int .u8 ((c : Int) + (k : Int))] 5)) := by
  have hz : zi (UInt8.ofNat (c + k)) = (c : Int) + (k : Int) := by
    unfold zi
    have : (UInt8.ofNat (c + k)).toNat = c + k := by simp; omega
    rw [this]; omega
  generalize UInt8.ofNat (c + k) = y at hz ⊢
  have hcv := (BytesAt.str (w := w.alloc (.cells #[.int .u8 (zi y)] 5)) (A := some ⟨w.heap.size, 0, none⟩) (n := 1) (l := [y]) ⟨rfl, fun _ => ⟨_, _, rfl, by simp, fun i x hx => by
    rw [Nat.zero_add, cell_marked]
    match i, hx with
    | 0, hx => simp at hx; subst hx; rfl⟩⟩ 1)
  rw [hz] at hcv
  exact hcv

theorem nameP_cat (k : Nat) : ({ data := #[112] } : ByteArray) ++ bs [UInt8.ofNat (97 + k)] = nameP k := by
  apply ByteArray.ext; rw [ByteArray.data_append]; simp [bs, nameP]
theorem nameT_cat (k : Nat) : ({ data := #[116] } : ByteArray) ++ bs [UInt8.ofNat (48 + k)] ++ { data := #[46, 120] } = nameT k := by
  apply ByteArray.ext; rw [ByteArray.data_append, ByteArray.data_append]; simp [bs, nameT]
theorem u8_in (z : Int) (h0 : 0 ≤ z) (h1 : z < 256) : IntKind.u8.wrap z = z := by
  simp [IntKind.wrap, IntKind.bits, IntKind.signed]; omega

/-- the net's rows -/
def arcRows (x : Tr × Value × Value × Value) : List Row := [arcRow x.2.1 x.1.inn, arcRow x.2.2.1 x.1.nt, arcRow x.2.2.2 x.1.out]
def netRows (vp vt : Value) (ps : List Pl) (l : List (Tr × Value × Value × Value)) : List Row := plRow vp ps :: trRow vt l :: l.flatMap arcRows
/-- a net of the call's own: all its rows are apart -/
def NetOwn (B : Nat) (w : World) (vp vt : Value) (n : Nt) : Prop := ∃ l, l.map (·.1) = n.trans ∧ AllOwn B w (netRows vp vt n.places l)

theorem NetOwn.at_ {B : Nat} {w : World} {vp vt : Value} {n : Nt} (h : NetOwn B w vp vt n) : NetAt w vp vt n := by
  obtain ⟨l, hl, h⟩ := h
  refine ⟨RowAt.of_own (h.own (plRow vp n.places) (by simp [netRows])), l, hl, RowAt.of_own (h.own (trRow vt l) (by simp [netRows])), fun x hx => ?_⟩
  have hm : ∀ r ∈ arcRows x, r ∈ netRows vp vt n.places l := fun r hr => by
    unfold netRows
    rw [List.mem_cons, List.mem_cons]
    exact .inr (.inr (List.mem_flatMap.2 ⟨x, hx, hr⟩))
  exact ⟨RowAt.of_own (h.own (arcRow x.2.1 x.1.inn) (hm _ (by simp [arcRows]))), RowAt.of_own (h.own (arcRow x.2.2.1 x.1.nt) (hm _ (by simp [arcRows]))), RowAt.of_own (h.own (arcRow x.2.2.2 x.1.out) (hm _ (by simp [arcRows])))⟩

/-- what Make has: the draft's box, the answer's, the net's; the net's rows -/
structure InMk (w wr : World) (D0 D1 vp vt : Value) (ps : List Pl) (l : List (Tr × Value × Value × Value)) (more : List Row) : Prop where
  all : AllOwn w.heap.size wr (boxRow w.heap.size 40 [D0, D1] :: boxRow (w.heap.size + 1) 30 [.slice none 0 0, .slice none 0 0] :: boxRow (w.heap.size + 2) 30 [vp, vt] :: (netRows vp vt ps l ++ more))
  below : Below w.heap.size w wr

theorem ownNil (B e size : Nat) (w : World) : w.ownsRow B e size (.slice none 0 0) 0 [] := World.ownsRow_nil _ _ _ _

theorem InMk.start (w : World) (D0 D1 : Value) : InMk w (((w.alloc (.cells #[D0, D1] 40)).alloc (.cells #[.slice none 0 0, .slice none 0 0] 30)).alloc (.cells #[.slice none 0 0, .slice none 0 0] 30)) D0 D1 (.slice none 0 0) (.slice none 0 0) [] [] [] := by
  have hs1 : (w.alloc (.cells #[D0, D1] 40)).heap.size = w.heap.size + 1 := by simp
  have hs2 : ((w.alloc (.cells #[D0, D1] 40)).alloc (.cells #[.slice none 0 0, .slice none 0 0] 30)).heap.size = w.heap.size + 2 := by simp
  have h1 := (AllOwn.nil w.heap.size w).add ((Below.refl _ w).alloc (Nat.le_refl _) _) (boxRow.new w.heap.size w 40 #[D0, D1] (Nat.le_refl _)) (fun k e => by injection e with e; subst e; exact Nat.le_refl _)
  have h2 := h1.add ((Below.refl _ _).alloc (Nat.le_refl _) _) (boxRow.new w.heap.size _ 30 #[.slice none 0 0, .slice none 0 0] (by simp <;> omega)) (fun k e => by injection e with e; subst e; exact Nat.le_refl _)
  have h3 := h2.add ((Below.refl _ _).alloc (Nat.le_refl _) _) (boxRow.new w.heap.size _ 30 #[.slice none 0 0, .slice none 0 0] (by simp <;> omega)) (fun k e => by injection e with e; subst e; exact Nat.le_refl _)
  have h4 := h3.add (Below.refl _ _) (r := plRow (.slice none 0 0) []) (ownNil _ _ _ _) (fun k e => by cases e)
  have h5 := h4.add (Below.refl _ _) (r := trRow (.slice none 0 0) []) (ownNil _ _ _ _) (fun k e => by cases e)
  rw [hs1, hs2] at h5
  exact ⟨h5, (((Below.refl _ w).alloc (Nat.le_refl _) _).alloc (by simp) _).alloc (by simp; omega) _⟩
end Go.Proofs.Ytoicmoodhblflaa
