/-
  What the document's own parser has at hand: its box, the tokens, the net so far. Its small steps.
  Conditions: none beyond each theorem's own.
-/
import Derived.Test.YtfiielibnnodkaaParseMath
import Derived.Test.YtfiielibnnodkaaMakeB
import Derived.Test.YtfiielibnnodkaaTokRow
import Derived.Test.YtfiielibnnodkaaNetC
import Derived.Test.YtfiielibnnodkaaLexWalks
namespace Go.Proofs.Ytfiielibnnodkaa
open Go.RowKit
set_option linter.unusedVariables false

/-- where the parser is, its error, the net so far, the names so far -/
structure QD where
  i : Nat
  e : Int
  at_ : Int
  n : Nt
  told : List ByteArray

def strRow (v : Value) (l : List ByteArray) : Row := ⟨9, 1, v, l.length, l.flatMap strL⟩
def qCells (vk : Value) (D : QD) (vp vt vn vo : Value) : List Value := [vk, .int .i64 (D.i : Int), .int .i64 D.e, .int .i64 D.at_, vp, vt, vn, vo]
theorem tokL_len' (t : Tok) : (tokL t).length = 4 := rfl

/-- the parser in block R, over tokens that lie below w0's end -/
def Q (w0 w : World) (R : Nat) (T : List Tok) (ns : List ByteArray) (more : List Row) (D : QD) : Prop :=
  D.i < T.length ∧ Good (T.drop D.i) ∧ ∃ vk vp vt vn vo l, RowAt 4 w0 vk T.length (T.flatMap tokL) ∧ l.map (·.1) = D.n.trans ∧
    AllOwn w0.heap.size w (boxRow R 93 (qCells vk D vp vt vn vo) :: (netRows vp vt D.n.places l ++ (strRow vn ns :: strRow vo D.told :: more))) ∧ Below w0.heap.size w0 w

/-- the token at hand -/
def QD.hd (T : List Tok) (D : QD) : Tok := Proofs.Ytfiielibnnodkaa.hd (T.drop D.i)
def failD (T : List Tok) (er : Int) (D : QD) : QD := if D.e = 0 then { D with e := er, at_ := ((D.hd T).at_ : Int) } else D
def stepD (T : List Tok) (D : QD) : QD := if D.e = 0 ∧ D.i + 1 < T.length then { D with i := D.i + 1 } else D
def seesD (T : List Tok) (k : Nat) (s : List UInt8) (D : QD) : Bool := decide (D.e = 0) && (decide ((D.hd T).kind = k) && (decide (s = []) || decide ((D.hd T).text = s)))

section
variable {w0 w w' : World} {R : Nat} {T : List Tok} {ns : List ByteArray} {more : List Row} {D : QD}

theorem Q.go (h : Q w0 w R T ns more D) (hb : Below w.heap.size w w') : Q w0 w' R T ns more D := by
  obtain ⟨h1, h2, vk, vp, vt, vn, vo, l, h3, h4, h5, h6⟩ := h
  exact ⟨h1, h2, vk, vp, vt, vn, vo, l, h3, h4, h5.below hb, h6.trans (hb.mono h6.size)⟩

/-- the box's cells, and the token's -/
structure QC (w : World) (R : Nat) (D : QD) (a : Option Addr) (n c : Nat) (vp vt vn vo : Value) : Prop where
  c0 : w.cell? ⟨R, 0, none⟩ = some (.slice a n c)
  c1 : w.cell? ⟨R, 1, none⟩ = some (.int .i64 (D.i : Int))
  c2 : w.cell? ⟨R, 2, none⟩ = some (.int .i64 D.e)
  c3 : w.cell? ⟨R, 3, none⟩ = some (.int .i64 D.at_)
  c4 : w.cell? ⟨R, 4, none⟩ = some vp
  c5 : w.cell? ⟨R, 5, none⟩ = some vt
  c6 : w.cell? ⟨R, 6, none⟩ = some vn
  c7 : w.cell? ⟨R, 7, none⟩ = some vo
  fz : ∀ j, w.frozen? ⟨R, j, none⟩ = false
  lt : R < w.heap.size

theorem Q.cells (h : Q w0 w R T ns more D) : ∃ b off c vp vt vn vo, QC w R D (some ⟨b, off, none⟩) T.length c vp vt vn vo ∧ b < w.heap.size ∧ T.length ≤ 9223372036854775807 ∧
    w.cell? ⟨b, off + D.i * 4, none⟩ = some (.int .u8 ((D.hd T).kind : Int)) ∧ w.cell? ⟨b, off + D.i * 4 + 1, none⟩ = some (.string (bs (D.hd T).text)) ∧ w.cell? ⟨b, off + D.i * 4 + 2, none⟩ = some (.int .i64 ((D.hd T).num : Int)) ∧ w.cell? ⟨b, off + D.i * 4 + 3, none⟩ = some (.int .i64 ((D.hd T).at_ : Int)) := by
  obtain ⟨h1, h2, vk, vp, vt, vn, vo, l, h3, h4, h5, h6⟩ := h
  have hB := h5.own (boxRow R 93 (qCells vk D vp vt vn vo)) (by simp)
  obtain ⟨t, ht⟩ := at_lt h1
  have hmax := RowAt.max h3
  obtain ⟨a, c, e⟩ := RowAt.len h3
  subst e
  obtain ⟨b, off, rfl, hb, hc⟩ := RowAt.elem tokL_len' h3 ht
  have hhd : D.hd T = t := by unfold QD.hd; rw [drop_at ht]; rfl
  refine ⟨b, off, c, vp, vt, vn, vo, ⟨boxRow.cell hB rfl, boxRow.cell hB rfl, boxRow.cell hB rfl, boxRow.cell hB rfl, boxRow.cell hB rfl, boxRow.cell hB rfl, boxRow.cell hB rfl, boxRow.cell hB rfl, boxRow.froz hB, (boxRow.lt hB).2⟩, Nat.lt_of_lt_of_le hb h6.size, hmax, ?_, ?_, ?_, ?_⟩
  · rw [below_cells h6 b _ hb, hhd]; exact hc 0 _ rfl
  · rw [below_cells h6 b _ hb, hhd]; exact hc 1 _ rfl
  · rw [below_cells h6 b _ hb, hhd]; exact hc 2 _ rfl
  · rw [below_cells h6 b _ hb, hhd]; exact hc 3 _ rfl

/-- a cell of the box stored: the place, the error, where -/
theorem Q.setBox {j : Nat} {u : Value} {D' : QD} (h : Q w0 w R T ns more D) (hn : D'.n = D.n) (ht : D'.told = D.told) (hi : D'.i < T.length ∧ Good (T.drop D'.i)) (hc : ∀ vk vp vt vn vo, (qCells vk D vp vt vn vo).set j u = qCells vk D' vp vt vn vo) :
    Q w0 (w.setCell ⟨R, j, none⟩ u) R T ns more D' := by
  obtain ⟨h1, h2, vk, vp, vt, vn, vo, l, h3, h4, h5, h6⟩ := h
  have hB := h5.own (boxRow R 93 (qCells vk D vp vt vn vo)) (by simp)
  obtain ⟨k1, k2⟩ := AllOwn.store (pre := []) (b := R) (t := 93) (cs := qCells vk D vp vt vn vo) (post := netRows vp vt D.n.places l ++ (strRow vn ns :: strRow vo D.told :: more)) h5 j u
  rw [hc] at k1
  have hR := (boxRow.lt hB).1
  refine ⟨hi.1, hi.2, vk, vp, vt, vn, vo, l, h3, by rw [hn]; exact h4, ?_, h6.trans (k2.below (fun k hk => by omega) h6.size)⟩
  rw [hn, ht]
  exact k1

set_option maxRecDepth 100000 in
set_option maxHeartbeats 1000000 in
theorem sees_any (h : Q w0 w R T ns more D) (k : Nat) (s : List UInt8) :
    Calls Try.prog 44 #[.pointer (some ⟨R, 0, none⟩), .int .u8 (k : Int), .string (bs s)] w fun e w' => e = .returned (.bool (seesD T k s D)) ∧ Below w.heap.size w w' := by
  obtain ⟨b, off, c, vp, vt, vn, vo, hC, hb, hmax, e0, e1, e2, e3⟩ := h.cells
  obtain ⟨c0, c1, c2, c3, c4, c5, c6, c7, fz, lt⟩ := hC
  have hi := h.1
  have hii : (D.i : Int) < (T.length : Int) := by omega
  obtain ⟨q, hq⟩ : ∃ q, q = seesD T k s D := ⟨_, rfl⟩
  rw [← hq]
  unfold seesD at hq
  obtain ⟨i, hi'⟩ : ∃ i, i = D.i := ⟨_, rfl⟩
  obtain ⟨n, hn'⟩ : ∃ n, n = T.length := ⟨_, rfl⟩
  obtain ⟨er, her⟩ : ∃ e, e = D.e := ⟨_, rfl⟩
  obtain ⟨kk, hkk⟩ : ∃ e, e = (D.hd T).kind := ⟨_, rfl⟩
  obtain ⟨tx, htx⟩ : ∃ e, e = (D.hd T).text := ⟨_, rfl⟩
  rw [← hi'] at c1 e0 e1 hii
  rw [← hn'] at c0 hii hmax
  rw [← her] at c2 hq
  rw [← hkk] at e0 hq
  rw [← htx] at e1 hq
  clear h c3 c4 c5 c6 c7 fz e2 e3 hi hi' hn' her hkk htx
  by_cases he : er = 0
  · subst he
    by_cases hk : kk = k
    · subst hk
      by_cases hs : s = []
      · obtain rfl : q = true := by rw [hq]; simp [hs]
        have hsb : ((bs s).toList == []) = true := by rw [bs_toList, hs]; rfl
        clear hq hs
        go_enter Try.func44, Try.ntmps44
        go_wp2
        go_quiet (fail)
        go_wp2
        go_ret
        exact ⟨rfl, below_drews (Below.refl _ _) _⟩
      · have hsb : ((bs s).toList == []) = false := by rw [bs_toList]; simpa using hs
        have hqq : ((bs tx).toList == (bs s).toList) = decide (tx = s) := by rw [bs_toList, bs_toList]; by_cases h : tx = s <;> simp [h]
        have hqe : q = decide (tx = s) := by rw [hq]; simp [hs]
        by_cases ht : tx = s
        · obtain rfl : q = true := by rw [hqe]; simp [ht]
          rw [decide_eq_true ht] at hqq
          clear hq hs hqe ht
          go_enter Try.func44, Try.ntmps44
          go_wp2
          go_quiet (fail)
          go_wp2
          go_ret
          exact ⟨rfl, below_drews (Below.refl _ _) _⟩
        · obtain rfl : q = false := by rw [hqe]; simp [ht]
          rw [decide_eq_false ht] at hqq
          clear hq hs hqe ht
          go_enter Try.func44, Try.ntmps44
          go_wp2
          go_quiet (fail)
          go_wp2
          go_ret
          exact ⟨rfl, below_drews (Below.refl _ _) _⟩
    · obtain rfl : q = false := by rw [hq]; simp [hk]
      have hkb : ((kk : Int) == (k : Int)) = false := by simp; omega
      clear hq hk
      go_enter Try.func44, Try.ntmps44
      go_wp2
      go_quiet (fail)
      go_wp2
      go_ret
      exact ⟨rfl, below_drews (Below.refl _ _) _⟩
  · obtain rfl : q = false := by rw [hq]; simp [he]
    have heb : (er == 0) = false := by simpa using he
    clear hq he
    go_enter Try.func44, Try.ntmps44
    go_wp2
    go_quiet (fail)
    go_wp2
    go_ret
    exact ⟨rfl, below_drews (Below.refl _ _) _⟩
end
end Go.Proofs.Ytfiielibnnodkaa
