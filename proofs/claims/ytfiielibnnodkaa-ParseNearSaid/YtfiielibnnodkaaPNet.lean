/-
  What parse.Net comes to, for any text.
  Conditions: the text is at most 800000 bytes.
-/
import Derived.Test.YtfiielibnnodkaaPItems
import Derived.Test.YtfiielibnnodkaaPNumbers
import Derived.Test.YtfiielibnnodkaaPGood
namespace Go.Proofs.Ytfiielibnnodkaa
open Go.RowKit
set_option linter.unusedVariables false

/-- what Net answers -/
def NetOut (B : Nat) (w' : World) (l : List UInt8) (v : Value) : Prop :=
  (∃ (e : Int) (p : Nat), parseL l = .error (e, p) ∧ p ≤ l.length ∧ v = .tuple #[.agg #[.slice none 0 0, .slice none 0 0], faultV e p (placeL (l.take p))]) ∨
  (∃ n vp vt, parseL l = .ok n ∧ NetOwn B w' vp vt n ∧ v = .tuple #[.agg #[vp, vt], faultV 0 0 (0, 0)])

theorem NetOwn.keep {C : Nat} {w w' : World} {vp vt : Value} {n : Nt} {S : Nat → Prop} (h : NetOwn C w vp vt n) (hk : Kept S w w') (hS : ∀ k, C ≤ k → ¬ S k) : NetOwn C w' vp vt n := by
  obtain ⟨l, hl, h⟩ := h
  exact ⟨l, hl, h.keep hk (fun k h1 _ => hS k h1)⟩
theorem NetOwn.mono {C D : Nat} {w : World} {vp vt : Value} {n : Nt} (h : NetOwn C w vp vt n) (hD : D ≤ C) : NetOwn D w vp vt n := by
  obtain ⟨l, hl, h⟩ := h
  exact ⟨l, hl, h.mono hD⟩

/-- the answer's two boxes -/
structure TwoB (w W : World) : Prop where
  all : AllOwn w.heap.size W [boxRow w.heap.size 30 [.slice none 0 0, .slice none 0 0], boxRow (w.heap.size + 1) 49 [.int .i64 0, .int .i64 0, .int .i64 0, .int .i64 0]]
  below : Below w.heap.size w W

theorem TwoB.start (w : World) : TwoB w ((w.alloc (.cells #[.slice none 0 0, .slice none 0 0] 30)).alloc (.cells #[.int .i64 0, .int .i64 0, .int .i64 0, .int .i64 0] 49)) := by
  have hs1 : (w.alloc (.cells #[.slice none 0 0, .slice none 0 0] 30)).heap.size = w.heap.size + 1 := by simp
  have h1 := (AllOwn.nil w.heap.size w).add ((Below.refl _ w).alloc (Nat.le_refl _) _) (boxRow.new w.heap.size w 30 #[.slice none 0 0, .slice none 0 0] (Nat.le_refl _)) (fun k e => by injection e with e; subst e; exact Nat.le_refl _)
  have h2 := h1.add ((Below.refl _ _).alloc (Nat.le_refl _) _) (boxRow.new w.heap.size _ 49 #[.int .i64 0, .int .i64 0, .int .i64 0, .int .i64 0] (by simp <;> omega)) (fun k e => by injection e with e; subst e; exact Nat.le_refl _)
  rw [hs1] at h2
  exact ⟨h2, ((Below.refl _ w).alloc (Nat.le_refl _) _).alloc (by simp) _⟩
theorem TwoB.go {w W W' : World} (h : TwoB w W) (hb : Below W.heap.size W W') : TwoB w W' := ⟨h.all.below hb, h.below.trans (hb.mono h.below.size)⟩
theorem TwoB.size {w W : World} (h : TwoB w W) : w.heap.size + 2 ≤ W.heap.size := by
  have := (boxRow.lt (h.all.own (boxRow (w.heap.size + 1) 49 [.int .i64 0, .int .i64 0, .int .i64 0, .int .i64 0]) (by simp))).2
  omega
theorem TwoB.go2 {w W W' : World} (h : TwoB w W) (hb : Below W.heap.size W W') : TwoB w W' := h.go hb

/-- the boxes' cells -/
structure TwoC (w W : World) : Prop where
  n0 : W.cell? ⟨w.heap.size, 0, none⟩ = some (.slice none 0 0)
  n1 : W.cell? ⟨w.heap.size, 1, none⟩ = some (.slice none 0 0)
  f0 : W.cell? ⟨w.heap.size + 1, 0, none⟩ = some (.int .i64 0)
  f1 : W.cell? ⟨w.heap.size + 1, 1, none⟩ = some (.int .i64 0)
  f2 : W.cell? ⟨w.heap.size + 1, 2, none⟩ = some (.int .i64 0)
  f3 : W.cell? ⟨w.heap.size + 1, 3, none⟩ = some (.int .i64 0)
  z0 : ∀ j, W.frozen? ⟨w.heap.size, j, none⟩ = false
  z1 : ∀ j, W.frozen? ⟨w.heap.size + 1, j, none⟩ = false
theorem TwoB.cells {w W : World} (h : TwoB w W) : TwoC w W := by
  have h1 := h.all.own (boxRow w.heap.size 30 [.slice none 0 0, .slice none 0 0]) (by simp)
  have h2 := h.all.own (boxRow (w.heap.size + 1) 49 [.int .i64 0, .int .i64 0, .int .i64 0, .int .i64 0]) (by simp)
  exact ⟨boxRow.cell h1 rfl, boxRow.cell h1 rfl, boxRow.cell h2 rfl, boxRow.cell h2 rfl, boxRow.cell h2 rfl, boxRow.cell h2 rfl, boxRow.froz h1, boxRow.froz h2⟩

/-- both boxes filled -/
def six (W : World) (b : Nat) (x0 x1 y0 y1 y2 y3 : Value) : World := (((((W.setCell ⟨b, 0, none⟩ x0).setCell ⟨b, 1, none⟩ x1).setCell ⟨b + 1, 0, none⟩ y0).setCell ⟨b + 1, 1, none⟩ y1).setCell ⟨b + 1, 2, none⟩ y2).setCell ⟨b + 1, 3, none⟩ y3
theorem kept_six (W : World) (b : Nat) (x0 x1 y0 y1 y2 y3 : Value) : Kept (fun k => k = b ∨ k = b + 1) W (six W b x0 x1 y0 y1 y2 y3) :=
  ((((((Kept.refl _ W).setCell (p := ⟨b, 0, none⟩) (.inl rfl) x0).setCell (p := ⟨b, 1, none⟩) (.inl rfl) x1).setCell (p := ⟨b + 1, 0, none⟩) (.inr rfl) y0).setCell (p := ⟨b + 1, 1, none⟩) (.inr rfl) y1).setCell (p := ⟨b + 1, 2, none⟩) (.inr rfl) y2).setCell (p := ⟨b + 1, 3, none⟩) (.inr rfl) y3
theorem below_six {w W : World} (h : Below w.heap.size w W) (x0 x1 y0 y1 y2 y3 : Value) : Below w.heap.size w (six W w.heap.size x0 x1 y0 y1 y2 y3) :=
  h.trans ((kept_six W w.heap.size x0 x1 y0 y1 y2 y3).below (fun k hk => by omega) h.size)

section
variable {w : World} {A : Option Addr} {n : Nat} {l : List UInt8}

set_option maxRecDepth 100000 in
set_option maxHeartbeats 2000000 in
theorem net_any (h : BytesAt w A n l) (c : Nat) (hc : n ≤ c) (hn : n ≤ 800000) :
    Calls Try.prog 17 #[.slice A n c] w fun e w' => ∃ v, e = .returned v ∧ NetOut w.heap.size w' l v ∧ Below w.heap.size w w' := by
  have hT0 := TwoB.start w
  have htk := tokens_any (h.below hT0.below) c hc (by omega)
  have hll := h.len
  have H := Lib.hid h
  have HT0 := Lib.hid hT0
  clear h hT0
  go_enter Try.func17, Try.ntmps17
  go_wp2_with fail
  refine htk.mono ?_
  rintro e w1 ⟨v, f, rfl, hout, hb1⟩
  have HT1 := Lib.hid (HT0.out.go hb1)
  clear hb1 htk
  rcases hout with ⟨ts, h1, h2, rfl⟩ | ⟨er, p, h1, hp, rfl, rfl⟩
  · unfold faultV
    have hok := lexL_all l.length l 0 ts (Nat.le_refl _) (by omega) h1
    obtain ⟨at_, nt, ct, e⟩ := own_form3 h2
    subst e
    have Hp : Hid (parseL l = parseT ts) := Lib.hid (by unfold parseL; rw [h1])
    have Hok := Lib.hid hok
    have HT2 := Lib.hid (HT1.out.go ((Below.refl _ _).alloc (Nat.le_refl _) (.cells #[.int .i64 0, .int .i64 0, .int .i64 0, .int .i64 0] 49)))
    have htok : TokAt w1 (.slice at_ nt ct) ts := RowAt.of_own h2
    have hnt : nt = ts.length := by obtain ⟨a', c', e'⟩ := RowAt.len htok; injection e' with _ e' _
    have htok2 : TokAt (w1.alloc (.cells #[.int .i64 0, .int .i64 0, .int .i64 0, .int .i64 0] 49)) (.slice at_ nt ct) ts := RowAt.alloc htok _
    have hnum := numbers_any hnt htok2 hok.good (by have := hok.len; omega)
    have Htok := Lib.hid htok2
    have Hnt := Lib.hid hnt
    have Hn := Lib.hid hn
    clear h1 h2 hok htok htok2 hnt hn
    go_wp2_with fail
    refine hnum.mono ?_
    rintro e w3 ⟨rfl, hin⟩
    have HT3 := Lib.hid (HT2.out.go hin.below)
    have hmap : SMap w3 (w1.heap.size + 1) (numsG [] ts) := by have := hin.map; rwa [show (w1.alloc (.cells #[.int .i64 0, .int .i64 0, .int .i64 0, .int .i64 0] 49)).heap.size = w1.heap.size + 1 by simp] at this
    have hP : PSt w3 w3.heap.size (w1.heap.size + 1) ⟨[], []⟩ ts (w3.alloc (.cells #[.slice at_ nt ct, .map (some (w1.heap.size + 1)), .slice none 0 0, .slice none 0 0] 77)) := by
      refine ⟨by simp, by simp, Hok.out.good, .slice none 0 0, .slice none 0 0, [], rfl, .slice at_ nt ct, RowAt.below Htok.out hin.below, ?_, (Below.refl _ _).alloc (Nat.le_refl _) _⟩
      have h1 := (AllOwn.nil w3.heap.size w3).add ((Below.refl _ w3).alloc (Nat.le_refl _) _) (boxRow.new w3.heap.size w3 77 #[.slice at_ nt ct, .map (some (w1.heap.size + 1)), .slice none 0 0, .slice none 0 0] (Nat.le_refl _)) (fun k e => by injection e with e; subst e; exact Nat.le_refl _)
      have h4 := h1.add (Below.refl _ _) (r := plRow (.slice none 0 0) []) (ownNil _ _ _ _) (fun k e => by cases e)
      exact h4.add (Below.refl _ _) (r := trRow (.slice none 0 0) []) (ownNil _ _ _ _) (fun k e => by cases e)
    have hit := items_reader hmap hP
    have HTr := Lib.hid (HT3.out.go ((Below.refl _ _).alloc (Nat.le_refl _) (.cells #[.slice at_ nt ct, .map (some (w1.heap.size + 1)), .slice none 0 0, .slice none 0 0] 77)))
    have Hat : Hid ((hd (itemsG (numsG [] ts) ts.length ⟨[], []⟩ ts).2.2).at_ ≤ l.length) := Lib.hid (by have h1 := (Hok.out.each _ (itemsG_rest (ns := numsG [] ts) (n := ⟨[], []⟩) ts.length Hok.out.good).mem).1; omega)
    have Hp2 : Hid (parseL l = if (itemsG (numsG [] ts) ts.length ⟨[], []⟩ ts).2.1 ≠ 0 then .error ((itemsG (numsG [] ts) ts.length ⟨[], []⟩ ts).2.1, (hd (itemsG (numsG [] ts) ts.length ⟨[], []⟩ ts).2.2).at_) else .ok (itemsG (numsG [] ts) ts.length ⟨[], []⟩ ts).1) := Hp
    have Hin := Lib.hid hin
    clear hin hmap hP hnum Hp
    generalize itemsG (numsG [] ts) ts.length ⟨[], []⟩ ts = E at hit Hat Hp2
    obtain ⟨N, er, us⟩ := E
    simp only at hit Hat Hp2
    go_wp2_with fail
    refine hit.mono ?_
    rintro e w4 ⟨rfl, hP4⟩
    have hb34 : Below w3.heap.size w3 w4 := by obtain ⟨_, _, _, vp, vt, l', _, hS⟩ := hP4; exact hS.below
    have HT4 : Hid (TwoB w w4) := Lib.hid (HT3.out.go hb34)
    by_cases he : er = 0
    · have Ho : Hid (parseL l = .ok N) := Lib.hid (by rw [Hp2.out, if_neg (by simp [he])])
      subst he
      obtain ⟨_, _, _, vp, vt, l', hl', hS⟩ := hP4
      have hNO := hS.net
      rw [show ntOf' N.places l' = N by unfold ntOf'; rw [hl']] at hNO
      obtain ⟨⟨ap, cp, e1⟩, at2, ct2, e2⟩ := hS.forms
      obtain ⟨vk, _, h2, _⟩ := hS
      have hB := h2.own (boxRow w3.heap.size 77 [vk, .map (some (w1.heap.size + 1)), vp, vt]) (by simp)
      have c2 := boxRow.cell hB (j := 2) rfl
      have c3 := boxRow.cell hB (j := 3) rfl
      have lt := (boxRow.lt hB).2
      obtain ⟨n0, n1, f0, f1, f2, f3, z0, z1⟩ := HT4.out.cells
      have z00 := z0 0
      have z01 := z0 1
      have z10 := z1 0
      have z11 := z1 1
      have z12 := z1 2
      have z13 := z1 3
      have hlw : w.heap.size + 1 < w3.heap.size := by have := HT3.out.size; omega
      have hlw4 : w.heap.size + 1 < w4.heap.size := by have := HT4.out.size; omega
      subst e1 e2
      have HN := Lib.hid hNO
      clear z0 z1 hB h2 hNO hit hb34 hl'
      go_wp2
      refine bodyPost_ret (v := .tuple #[.agg #[.slice ap N.places.length cp, .slice at2 l'.length ct2], .agg #[.int .i64 0, .int .i64 0, .int .i64 0, .int .i64 0]]) (by simp [results, Try.results17, go_sem, n0, n1, f0, f1, f2, f3]) rfl ⟨_, rfl, .inr ⟨N, _, _, Ho.out, (HN.out.keep (kept_six w4 w.heap.size _ _ _ _ _ _) (fun k hk e => by omega)).mono (by omega), rfl⟩, below_six HT4.out.below _ _ _ _ _ _⟩
    · have heb : (er == 0) = false := by simpa using he
      have Ho : Hid (parseL l = .error (er, (hd us).at_)) := Lib.hid (by rw [Hp2.out, if_pos he])
      have hnx := hP4.next
      unfold tokV at hnx
      have hf := Try.tok_at ((hd us).kind : Int) (bs (hd us).text) ((hd us).num : Int) ((hd us).at_ : Int)
      have hatn : (hd us).at_ ≤ n := by rw [← hll]; exact Hat.out
      have Hb34 := Lib.hid hb34
      clear hP4 hit hb34 he
      go_wp2_with fail
      refine hnx.mono ?_
      rintro e w5 ⟨rfl, hP5⟩
      have hb35 : Below w3.heap.size w3 w5 := by obtain ⟨_, _, _, vp, vt, l', _, hS⟩ := hP5; exact hS.below
      have HT5 : Hid (TwoB w w5) := Lib.hid (HT3.out.go hb35)
      have hfa := fault_any (H.out.below HT5.out.below) c hc (by have := Hn.out; omega) er ((hd us).at_ : Int) (by omega) (by have := Hn.out; omega)
      have hcl : clampI ((hd us).at_ : Int) n = (hd us).at_ := by unfold clampI; omega
      rw [hcl] at hfa
      obtain ⟨q, hq⟩ : ∃ q, q = placeL (l.take (hd us).at_) := ⟨_, rfl⟩
      rw [← hq] at hfa
      have Hq := Lib.hid hq
      obtain ⟨q1, q2⟩ := q
      unfold faultV at hfa
      simp only at hfa
      clear hP5 hnx hb35 hq hcl
      go_wp2_with fail
      refine hfa.mono ?_
      rintro e w6 ⟨rfl, hb6⟩
      have hT6 := HT5.out.go hb6
      obtain ⟨n0, n1, f0, f1, f2, f3, z0, z1⟩ := hT6.cells
      have z00 := z0 0
      have z01 := z0 1
      have z10 := z1 0
      have z11 := z1 1
      have z12 := z1 2
      have z13 := z1 3
      have HB := Lib.hid hT6.below
      have hlw : w.heap.size + 1 < w6.heap.size := by have := hT6.size; omega
      clear z0 z1 hT6 hb6 hfa
      go_wp2
      refine bodyPost_ret (v := .tuple #[.agg #[.slice none 0 0, .slice none 0 0], .agg #[.int .i64 er, .int .i64 ((hd us).at_ : Int), .int .i64 (q1 : Int), .int .i64 (q2 : Int)]]) (by simp [results, Try.results17, go_sem, n0, n1, f0, f1, f2, f3]) rfl ⟨_, rfl, .inl ⟨er, (hd us).at_, Ho.out, Hat.out, by rw [← Hq.out]; rfl⟩, below_six HB.out _ _ _ _ _ _⟩
  · have Ho : Hid (parseL l = .error ((er : Int), p)) := Lib.hid (by unfold parseL; rw [h1])
    have hen := lexL_err l.length l 0 er p (Nat.le_refl _) h1
    have Hpl : Hid (p ≤ l.length) := Lib.hid hp
    unfold faultV
    obtain ⟨q, hq⟩ : ∃ q, q = placeL (l.take p) := ⟨_, rfl⟩
    rw [← hq]
    have Hq := Lib.hid hq
    obtain ⟨q1, q2⟩ := q
    clear hq h1 hp
    simp only
    have her : ((er : Int) == 0) = false := by simp; omega
    have hT2 := HT1.out.go ((Below.refl _ _).alloc (Nat.le_refl _) (.cells #[.int .i64 (er : Int), .int .i64 (p : Int), .int .i64 (q1 : Int), .int .i64 (q2 : Int)] 49))
    have hs := HT1.out.size
    have k0 : (w1.alloc (.cells #[.int .i64 (er : Int), .int .i64 (p : Int), .int .i64 (q1 : Int), .int .i64 (q2 : Int)] 49)).cell? ⟨w1.heap.size, 0, none⟩ = some (.int .i64 (er : Int)) := by go_simp
    have k1 : (w1.alloc (.cells #[.int .i64 (er : Int), .int .i64 (p : Int), .int .i64 (q1 : Int), .int .i64 (q2 : Int)] 49)).cell? ⟨w1.heap.size, 1, none⟩ = some (.int .i64 (p : Int)) := by go_simp
    have k2 : (w1.alloc (.cells #[.int .i64 (er : Int), .int .i64 (p : Int), .int .i64 (q1 : Int), .int .i64 (q2 : Int)] 49)).cell? ⟨w1.heap.size, 2, none⟩ = some (.int .i64 (q1 : Int)) := by go_simp
    have k3 : (w1.alloc (.cells #[.int .i64 (er : Int), .int .i64 (p : Int), .int .i64 (q1 : Int), .int .i64 (q2 : Int)] 49)).cell? ⟨w1.heap.size, 3, none⟩ = some (.int .i64 (q2 : Int)) := by go_simp
    have hsz : w1.heap.size < (w1.alloc (.cells #[.int .i64 (er : Int), .int .i64 (p : Int), .int .i64 (q1 : Int), .int .i64 (q2 : Int)] 49)).heap.size := by simp
    go_upto_region 3 with (fail)
    revert hT2 k0 k1 k2 k3 hsz
    generalize w1.alloc (.cells #[.int .i64 (er : Int), .int .i64 (p : Int), .int .i64 (q1 : Int), .int .i64 (q2 : Int)] 49) = W
    intro hT2 k0 k1 k2 k3 hsz
    obtain ⟨n0, n1, f0, f1, f2, f3, z0, z1⟩ := hT2.cells
    have z00 := z0 0
    have z01 := z0 1
    have z10 := z1 0
    have z11 := z1 1
    have z12 := z1 2
    have z13 := z1 3
    have HB := Lib.hid hT2.below
    have hlw : w.heap.size + 1 < W.heap.size := by have := hT2.size; omega
    clear z0 z1 hT2
    go_region
    go_wp2
    refine bodyPost_ret (v := .tuple #[.agg #[.slice none 0 0, .slice none 0 0], .agg #[.int .i64 (er : Int), .int .i64 (p : Int), .int .i64 (q1 : Int), .int .i64 (q2 : Int)]]) (by simp [results, Try.results17, go_sem, n0, n1, f0, f1, f2, f3]) rfl ⟨_, rfl, .inl ⟨(er : Int), p, Ho.out, Hpl.out, by rw [← Hq.out]; rfl⟩, (below_six HB.out _ _ _ _ _ _).drew⟩
end
end Go.Proofs.Ytfiielibnnodkaa
