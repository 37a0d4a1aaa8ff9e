/-
  Two bytes as a text; texts behind each other. The document's own Digits: a number's digits. The document's own arc: an arc as a text. The document's own Text: a net that may be as a text.
  Conditions: none beyond each theorem's own.
-/
import Derived.Test.YtfiielibnnodkaaMakeB
import Derived.Test.YtfiielibnnodkaaTexts
import Derived.Test.YtfiielibnnodkaaNew
import Derived.Test.YtfiielibnnodkaaNetE
import Derived.Deep.RegionLaw
import Derived.Deep.CutRange
/-! ## Conv2 -/
namespace Go.Proofs.Ytfiielibnnodkaa
open Go.RowKit
set_option linter.unusedVariables false

/-- two bytes as a text -/
theorem run_conv2 (w : World) (m d : Nat) (hm : m < 100) (hd : d < 100) : (convert 22 9 (.slice (some ⟨w.heap.size, 0, none⟩) 2 2)).run Try.prog (w.alloc (.cells #[.int .u8 (97 + (m : Int)), .int .u8 (97 + (d : Int))] 5)) = .ok (.string (bs [UInt8.ofNat (97 + m), UInt8.ofNat (97 + d)])) (w.alloc (.cells #[.int .u8 (97 + (m : Int)), .int .u8 (97 + (d : Int))] 5)) := by
  have hz : ∀ k : Nat, k < 100 → zi (UInt8.ofNat (97 + k)) = 97 + (k : Int) := by
    intro k hk
    unfold zi
    have : (UInt8.ofNat (97 + k)).toNat = 97 + k := by simp; omega
    rw [this]; omega
  have h1 := hz m hm
  have h2 := hz d hd
  generalize UInt8.ofNat (97 + m) = x at h1 ⊢
  generalize UInt8.ofNat (97 + d) = y at h2 ⊢
  have hcv := (BytesAt.str (w := w.alloc (.cells #[.int .u8 (zi x), .int .u8 (zi y)] 5)) (A := some ⟨w.heap.size, 0, none⟩) (n := 2) (l := [x, y]) ⟨rfl, fun _ => ⟨_, _, rfl, by simp, fun i z hx => by
    rw [Nat.zero_add, cell_marked]
    match i, hx with
    | 0, hx => simp at hx; subst hx; rfl
    | 1, hx => simp at hx; subst hx; rfl⟩⟩ 2)
  rw [h1, h2] at hcv
  exact hcv

theorem bs_cat (a b : List UInt8) : bs a ++ bs b = bs (a ++ b) := by
  apply ByteArray.ext; rw [ByteArray.data_append]; simp [bs]

end Go.Proofs.Ytfiielibnnodkaa

/-! ## Digits -/
namespace Go.Proofs.Ytfiielibnnodkaa
open Go.RowKit
set_option linter.unusedVariables false

theorem conv_up {w' : World} {b k c : Nat} (h : c + k < 256) (hb : b < w'.heap.size) (hc : w'.cell? ⟨b, 0, none⟩ = some (.int .u8 ((c : Int) + (k : Int)))) : (convert 22 9 (.slice (some ⟨b, 0, none⟩) 1 1)).run Try.prog w' = .ok (.string (bs [UInt8.ofNat (c + k)])) w' := by
  have hz : zi (UInt8.ofNat (c + k)) = (c : Int) + (k : Int) := by
    unfold zi
    have : (UInt8.ofNat (c + k)).toNat = c + k := by simp; omega
    rw [this]; omega
  refine BytesAt.str (A := some ⟨b, 0, none⟩) (n := 1) (l := [UInt8.ofNat (c + k)]) ⟨rfl, fun _ => ⟨_, _, rfl, hb, fun i z hx => ?_⟩⟩ 1
  match i, hx with
  | 0, hx =>
    injection hx with hx
    rw [← hx, hz]
    exact hc

set_option maxRecDepth 100000 in
set_option maxHeartbeats 1000000 in
theorem digits_any (n : Nat) (hn : n ≤ 1000000) : ∀ w : World, Calls Try.prog 29 #[.int .i64 (n : Int)] w fun e w' => e = .returned (.string (bs (digs n))) ∧ Below w.heap.size w w' := by
  induction n using Nat.strongRecOn with
  | ind n ih =>
    intro w
    have h0 : ¬ (n : Int) < 0 := by omega
    by_cases hs : n < 10
    · have hsi : (n : Int) < 10 := by omega
      have h8 : IntKind.u8.wrap (48 + (n : Int)) = 48 + (n : Int) := by simp [IntKind.wrap, IntKind.bits, IntKind.signed]; omega
      have hcv : (convert 22 9 (.slice (some ⟨w.heap.size, 0, none⟩) 1 1)).run Try.prog (w.alloc (.cells #[.int .u8 (48 + (n : Int))] 5)) = .ok (.string (bs [UInt8.ofNat (48 + n)])) (w.alloc (.cells #[.int .u8 (48 + (n : Int))] 5)) := run_conv1 w n 48 (by omega)
      rw [digs_one hs]
      obtain ⟨S, hS⟩ : ∃ S, S = bs [UInt8.ofNat (48 + n)] := ⟨_, rfl⟩
      rw [← hS] at hcv ⊢
      clear ih hS
      go_enter Try.func29, Try.ntmps29
      go_wp2
      go_ret
      exact ⟨rfl, (Below.refl _ _).alloc (Nat.le_refl _) _⟩
    · have hsi : ¬ (n : Int) < 10 := by omega
      obtain ⟨q, hq⟩ : ∃ q, q = n / 10 := ⟨_, rfl⟩
      obtain ⟨d, hd⟩ : ∃ d, d = n % 10 := ⟨_, rfl⟩
      have hqi : (n : Int) / 10 = (q : Int) := by omega
      have hdi : (n : Int) % 10 = (d : Int) := by omega
      have h8 : IntKind.u8.wrap (48 + (d : Int)) = 48 + (d : Int) := by simp [IntKind.wrap, IntKind.bits, IntKind.signed]; omega
      have hqw : IntKind.i64.wrap (q : Int) = (q : Int) := by simp [IntKind.wrap, IntKind.bits, IntKind.signed]; omega
      have htm : (n : Int).tmod 10 = (d : Int) := by rw [Int.tmod_eq_emod_of_nonneg (by omega)]; omega
      have h64 : IntKind.i64.wrap (48 + (d : Int)) = 48 + (d : Int) := by simp [IntKind.wrap, IntKind.bits, IntKind.signed]; omega
      have ihq := ih q (by omega) (by omega)
      have Hl := (digs_all (n := q) (by omega)).2.2.1
      rw [digs_step (by omega) hs, ← hq, ← hd]
      obtain ⟨S, hS⟩ : ∃ S, S = bs (digs q) := ⟨_, rfl⟩
      obtain ⟨D, hD⟩ : ∃ D, D = bs [UInt8.ofNat (48 + d)] := ⟨_, rfl⟩
      obtain ⟨R, hR⟩ : ∃ R, R = bs (digs q ++ [UInt8.ofNat (48 + d)]) := ⟨_, rfl⟩
      have hcat : S ++ D = R := by rw [hS, hD, hR, bs_cat]
      have hs1 : S.size ≤ 8 := by rw [hS, bs_size]; exact Hl
      have hs2 : D.size = 1 := by rw [hD, bs_size]; rfl
      have hs3 : ¬ 9223372036854775807 < S.size + 1 := by omega
      have hcv : ∀ (W : World) (b : Nat), b < W.heap.size → W.cell? ⟨b, 0, none⟩ = some (.int .u8 (48 + (d : Int))) → (convert 22 9 (.slice (some ⟨b, 0, none⟩) 1 1)).run Try.prog W = .ok (.string D) W := fun W b hb hc => by
        rw [hD]; exact conv_up (c := 48) (k := d) (by omega) hb hc
      rw [← hS] at ihq
      rw [← hR]
      clear hq hd hS hD hR ih Hl
      go_enter Try.func29, Try.ntmps29
      go_upto_region 5 with (fail)
      go_region_law (first | (go_simp; go_at_call 29; refine (ihq _).mono ?_; rintro e w5 ⟨rfl, hb5⟩; have k5 := fun b h => below_cells hb5 b 0 h; have k6 := fun b (h : b < _) => Nat.lt_of_lt_of_le h hb5.size))
      all_goals
        clear k5 k6 hcv ihq
        go_wp2
        go_ret
        first | exact ⟨rfl, (((Below.refl _ w).drew).trans (hb5.mono (by simp; done))).alloc (by have := hb5.size; simp at this; omega) _⟩ | exact ⟨rfl, (((Below.refl _ w).drew).alloc (by simp; done) _).trans (hb5.mono (by simp; done))⟩
end Go.Proofs.Ytfiielibnnodkaa

/-! ## ArcText -/
namespace Go.Proofs.Ytfiielibnnodkaa
open Go.RowKit
set_option linter.unusedVariables false

section
variable {w : World} {ps : List Pl} {ap a2 : Option Addr} {np cp n2 c2 : Nat} {x y : Int}

set_option maxRecDepth 100000 in
set_option maxHeartbeats 1000000 in
theorem rarc_any (hp : PlsAt w (.slice ap np cp) ps) (hnp : np = ps.length) (h0 : 0 ≤ x) (hx : x < np) (h1 : 1 ≤ y) (hy : y ≤ 1000000) (hs : Short ps) :
    Calls Try.prog 30 #[.agg #[.slice ap np cp, .slice a2 n2 c2], .agg #[.int .i64 x, .int .i64 y]] w fun e w' => e = .returned (.string (bs (arcT ps (x, y)))) ∧ Below w.heap.size w w' := by
  obtain ⟨i, rfl⟩ : ∃ i : Nat, x = (i : Int) := ⟨x.toNat, by omega⟩
  obtain ⟨m, rfl⟩ : ∃ m : Nat, y = (m : Int) := ⟨y.toNat, by omega⟩
  have hmx := RowAt.max hp
  obtain ⟨p, hpi⟩ := at_lt (l := ps) (k := i) (by omega)
  obtain ⟨b, off, rfl, hb, e0, e1⟩ := PlsAt.at_ hp hpi
  have hn : plName ps (i : Int) = nb p.name := by unfold plName; rw [List.getD_eq_getElem?_getD, Int.toNat_natCast, hpi]; rfl
  have hsz := hs p (List.mem_of_getElem? hpi)
  have HB := Lib.hid (((Below.refl _ w).alloc (Nat.le_refl _) (.cells #[.slice (some ⟨b, off, none⟩) np cp, .slice a2 n2 c2] 30)).alloc (by simp) (.cells #[.int .i64 (i : Int), .int .i64 (m : Int)] 37))
  unfold arcT optT
  simp only [hn]
  by_cases hm : m = 1
  · subst hm
    have e : bs (nb p.name ++ (if ((1 : Nat) : Int) = 1 then [] else [42] ++ digs ((1 : Nat) : Int).toNat)) = p.name := by rw [if_pos (by omega), List.append_nil, bs_nb]
    rw [e]
    clear hp hpi hs hn e1 hnp e
    go_enter Try.func30, Try.ntmps30
    go_wp2
    go_ret
    exact ⟨rfl, HB.out⟩
  · have hmb : ((m : Int) == 1) = false := by simp; omega
    have hmn : ¬ (m : Int) = 1 := by omega
    obtain ⟨D, hD⟩ : ∃ D, D = bs (digs m) := ⟨_, rfl⟩
    obtain ⟨E, hE⟩ : ∃ E, E = bs ([42] ++ digs m) := ⟨_, rfl⟩
    obtain ⟨R, hR⟩ : ∃ R, R = bs (nb p.name ++ ([42] ++ digs m)) := ⟨_, rfl⟩
    have q1 : ({ data := #[42] } : ByteArray) ++ D = E := by rw [hD, hE, ← bs_cat]; rfl
    have q2 : p.name ++ E = R := by rw [hR, hE, ← bs_cat (nb p.name), bs_nb]
    have hl := (digs_all (n := m) (by omega)).2.2.1
    have s1 : D.size ≤ 8 := by rw [hD, bs_size]; exact hl
    have s2 : E.size ≤ 9 := by rw [hE, bs_size, List.length_append]; simp; omega
    have hdg := digits_any m (by omega) ((w.alloc (.cells #[.slice (some ⟨b, off, none⟩) np cp, .slice a2 n2 c2] 30)).alloc (.cells #[.int .i64 (i : Int), .int .i64 (m : Int)] 37))
    rw [← hD] at hdg
    rw [if_neg hmn, Int.toNat_natCast, ← hR]
    clear hp hpi hs hn e1 hnp hD hE hR hl hm hmn
    go_enter Try.func30, Try.ntmps30
    go_wp2_with fail
    refine hdg.mono ?_
    rintro e w1 ⟨rfl, hb1⟩
    have HB1 := Lib.hid (HB.out.trans (hb1.mono HB.out.size))
    clear hb1 hdg
    go_wp2
    go_ret
    exact ⟨rfl, HB1.out⟩
end
end Go.Proofs.Ytfiielibnnodkaa

/-! ## RText -/
namespace Go.Proofs.Ytfiielibnnodkaa
open Go.RowKit
set_option linter.unusedVariables false

/-- a transition's box above V -/
structure InTr (V wr : World) (nm : ByteArray) (d p : Int) (v1 v2 v3 : Value) : Prop where
  below : Below (V.heap.size + 1) (V.alloc (.cells #[.string nm, .int .i64 d, .int .i64 p, v1, v2, v3] 40)) wr
section
variable {V wr w' : World} {nm : ByteArray} {d p : Int} {v1 v2 v3 : Value}
theorem InTr.start (V : World) (nm : ByteArray) (d p : Int) (v1 v2 v3 : Value) : InTr V (V.alloc (.cells #[.string nm, .int .i64 d, .int .i64 p, v1, v2, v3] 40)) nm d p v1 v2 v3 := ⟨Below.refl _ _⟩
theorem InTr.old (h : InTr V wr nm d p v1 v2 v3) : Below V.heap.size V wr := ((Below.refl _ V).alloc (Nat.le_refl _) _).trans (h.below.mono (by omega))
theorem InTr.size (h : InTr V wr nm d p v1 v2 v3) : V.heap.size < wr.heap.size := by have := h.below.size; simp at this; omega
theorem InTr.go (h : InTr V wr nm d p v1 v2 v3) (hb : Below wr.heap.size wr w') : InTr V w' nm d p v1 v2 v3 := ⟨h.below.trans (hb.mono (by have := h.below.size; simp at this; omega))⟩
theorem InTr.c0 (h : InTr V wr nm d p v1 v2 v3) : wr.cell? ⟨V.heap.size, 0, none⟩ = some (.string nm) := (h.below.cell (p := ⟨V.heap.size, 0, none⟩) (by simp)).trans (by go_simp)
theorem InTr.c1 (h : InTr V wr nm d p v1 v2 v3) : wr.cell? ⟨V.heap.size, 1, none⟩ = some (.int .i64 d) := (h.below.cell (p := ⟨V.heap.size, 1, none⟩) (by simp)).trans (by go_simp)
theorem InTr.c2 (h : InTr V wr nm d p v1 v2 v3) : wr.cell? ⟨V.heap.size, 2, none⟩ = some (.int .i64 p) := (h.below.cell (p := ⟨V.heap.size, 2, none⟩) (by simp)).trans (by go_simp)
theorem InTr.c3 (h : InTr V wr nm d p v1 v2 v3) : wr.cell? ⟨V.heap.size, 3, none⟩ = some v1 := (h.below.cell (p := ⟨V.heap.size, 3, none⟩) (by simp)).trans (by go_simp)
theorem InTr.c4 (h : InTr V wr nm d p v1 v2 v3) : wr.cell? ⟨V.heap.size, 4, none⟩ = some v2 := (h.below.cell (p := ⟨V.heap.size, 4, none⟩) (by simp)).trans (by go_simp)
theorem InTr.c5 (h : InTr V wr nm d p v1 v2 v3) : wr.cell? ⟨V.heap.size, 5, none⟩ = some v3 := (h.below.cell (p := ⟨V.heap.size, 5, none⟩) (by simp)).trans (by go_simp)
end

/-- what a net that may be keeps to -/
structure Fits (n : Nt) : Prop where
  pl : n.places.length ≤ 32
  tr : n.trans.length ≤ 32
  short : Short n.places
  tok : ∀ p ∈ n.places, 0 ≤ p.tok ∧ p.tok ≤ 1000000
  trs : ∀ t ∈ n.trans, t.name.size ≤ 12 ∧ (0 ≤ t.delay ∧ t.delay ≤ 1000000) ∧ (0 ≤ t.prio ∧ t.prio ≤ 1000000) ∧ t.inn.length ≤ 8 ∧ t.nt.length ≤ 8 ∧ t.out.length ≤ 8
  arc : ∀ t ∈ n.trans, ∀ a, a ∈ t.inn ∨ a ∈ t.nt ∨ a ∈ t.out → 0 ≤ a.1 ∧ a.1 < n.places.length ∧ 1 ≤ a.2 ∧ a.2 ≤ 1000000
theorem NetOk.fits {n : Nt} (h : NetOk n.places.length n) : Fits n := by
  have hnm : ∀ s ∈ n.names, s.size ≤ 12 := fun s hs => by
    have := h.nm s hs
    simp only [nameB, Bool.and_eq_true, decide_eq_true_eq] at this
    exact this.2
  refine ⟨h.pl, h.tr, fun p hp => hnm _ (by simp only [Nt.names, List.mem_append, List.mem_map]; exact .inl ⟨p, hp, rfl⟩), fun p hp => ?_, fun t ht => ?_, fun t ht a ha => ?_⟩
  · have := h.tok p hp
    simpa only [numB, Bool.and_eq_true, decide_eq_true_eq] using this
  · obtain ⟨a, b, c, d, e⟩ := h.trs t ht
    simp only [numB, Bool.and_eq_true, decide_eq_true_eq] at a b
    exact ⟨hnm _ (by simp only [Nt.names, List.mem_append, List.mem_map]; exact .inr ⟨t, ht, rfl⟩), a, b, c.len, d.len, e.len⟩
  · obtain ⟨_, _, c, d, e⟩ := h.trs t ht
    have key : ∀ l, ArcsOk n.places.length l → a ∈ l → 0 ≤ a.1 ∧ a.1 < n.places.length ∧ 1 ≤ a.2 ∧ a.2 ≤ 1000000 := fun l hl hx => by
      have := (arcsErr_parts l [] hl.err).1 a hx
      simp only [numB, inP, Bool.and_eq_true, decide_eq_true_eq] at this
      omega
    rcases ha with ha | ha | ha
    · exact key _ c ha
    · exact key _ d ha
    · exact key _ e ha

theorem cat_eq {a b c : List UInt8} (h : a ++ b = c) : bs a ++ bs b = bs c := by rw [bs_cat, h]
theorem arcsT_bd {ps : List Pl} (h : Short ps) {mark : List UInt8} (hm : mark.length ≤ 1) {l : List (Int × Int)} (h8 : l.length ≤ 8) (hl : ∀ a ∈ l, a.2 ≤ 1000000) (k : Nat) (sep : List UInt8) (hs : sep.length ≤ 2) : (arcsT ps mark sep (l.take k)).length ≤ 192 := by
  have h1 := arcsT_len h hm (l.take k) (fun a ha => hl a (List.mem_of_mem_take ha)) sep hs
  have h2 : (l.take k).length ≤ 8 := by rw [List.length_take]; omega
  omega
theorem sepT_bd {sep : List UInt8} (hs : sep.length ≤ 2) (l : List (Int × Int)) : (sepT sep l).length ≤ 2 := by unfold sepT; split <;> simp [hs]
theorem flat_bd {α : Type} (f : α → List UInt8) (m : Nat) (l : List α) (h : ∀ a ∈ l, (f a).length ≤ m) (k : Nat) : ((l.take k).flatMap f).length ≤ k * m := by
  induction l generalizing k with
  | nil => simp
  | cons a l ih =>
    cases k with
    | zero => simp
    | succ k =>
      have h1 := ih (fun x hx => h x (by simp [hx])) k
      have h2 := h a (by simp)
      rw [List.take_succ_cons, List.flatMap_cons, List.length_append, Nat.succ_mul]
      omega
theorem Fits.transT_len {n : Nt} (h : Fits n) {t : Tr} (ht : t ∈ n.trans) : (transT n.places t).length ≤ 700 := by
  obtain ⟨h1, h2, h3, h4, h5, h6⟩ := h.trs t ht
  have a0 := headT_len h1 h2.2 h3.2
  have a1 := arcsT_len h.short (mark := []) (by simp) t.inn (fun a ha => (h.arc t ht a (.inl ha)).2.2.2) [32] (by simp)
  have a2 := arcsT_len h.short (mark := [126]) (by simp) t.nt (fun a ha => (h.arc t ht a (.inr (.inl ha))).2.2.2) (sepT [32] t.inn) (by unfold sepT; split <;> simp)
  have a3 := arcsT_len h.short (mark := []) (by simp) t.out (fun a ha => (h.arc t ht a (.inr (.inr ha))).2.2.2) [32] (by simp)
  unfold transT
  simp only [List.length_append, List.length_cons, List.length_nil]
  omega
theorem Fits.text_len {n : Nt} (h : Fits n) : (textN n).length ≤ 30000 := by
  have h1 := flat_bd placeT 40 n.places (fun p hp => placeT_len (h.short p hp) (h.tok p hp).2) n.places.length
  have h2 := flat_bd (transT n.places) 700 n.trans (fun t ht => h.transT_len ht) n.trans.length
  rw [List.take_length] at h1 h2
  have := h.pl
  have := h.tr
  unfold textN
  rw [List.length_append]
  omega

section
variable {w : World} {n : Nt} {ap at_ : Option Addr} {np nt cp ct : Nat}

set_option maxRecDepth 100000 in
set_option maxHeartbeats 8000000 in
theorem rtext_any (hnp : np = n.places.length) (hnt : nt = n.trans.length) (h : NetAt w (.slice ap np cp) (.slice at_ nt ct) n) (hN : NetOk n.places.length n) :
    Calls Try.prog 16 #[.agg #[.slice ap np cp, .slice at_ nt ct]] w fun e w' => e = .returned (.string (bs (textN n))) ∧ Below w.heap.size w w' := by
  have HF := Lib.hid hN.fits
  obtain ⟨R, hR⟩ : ∃ R, R = bs (textN n) := ⟨_, rfl⟩
  rw [← hR]
  have HR := Lib.hid hR
  have Hnp := Lib.hid hnp
  have Hnt := Lib.hid hnt
  have hnp32 : np ≤ 32 := by have := HF.out.pl; omega
  have hnt32 : nt ≤ 32 := by have := HF.out.tr; omega
  obtain ⟨hpl, tl, htl, htr⟩ := h
  have HP := Lib.hid hpl
  have HT := Lib.hid htr
  have Htl := Lib.hid htl
  have Hi0 := Lib.hid (InBox.start w (.slice ap np cp) (.slice at_ nt ct))
  have Hlen : Hid (∀ k, ((n.places.take k).flatMap placeT).length ≤ k * 40) := Lib.hid (fun k => flat_bd placeT 40 n.places (fun p hp => placeT_len (HF.out.short p hp) (HF.out.tok p hp).2) k)
  have HlenT : Hid (∀ k, ((n.trans.take k).flatMap (transT n.places)).length ≤ k * 700) := Lib.hid (fun k => flat_bd (transT n.places) 700 n.trans (fun t ht => HF.out.transT_len ht) k)
  clear hnp hnt hpl htr htl hN hR
  go_enter Try.func16, Try.ntmps16
  go_wp2
  go_loopw [3, 4] (fun s i wr => ∃ k : Nat, k ≤ np ∧ i = .int .i64 k ∧ InBox w wr (.slice ap np cp) (.slice at_ nt ct) ∧ ∃ S, s = .string S ∧ Hid (S = bs ((n.places.take k).flatMap placeT))) (fun _ i _ => np - (intOf i).toNat)
  case atStart => exact ⟨0, by omega, rfl, Hi0.out, _, rfl, Lib.hid rfl⟩
  case round =>
    rename World => v1
    obtain ⟨k, hk, rfl, hin, S, rfl, HS⟩ := hrel
    have b0 := hin.c0
    have b1 := hin.c1
    have blt := hin.size
    have hSs : S.size ≤ 1280 := by rw [HS.out, bs_size]; have := Hlen.out k; omega
    have Hin := Lib.hid hin
    by_cases hlt : k < np
    · have hlti : (k : Int) < (np : Int) := by omega
      obtain ⟨x, hx⟩ := at_lt (l := n.places) (k := k) (by rw [← Hnp.out]; exact hlt)
      obtain ⟨b, off, rfl, hb, e0, e1⟩ := PlsAt.at_ (HP.out.below hin.old) hx
      have hxm := List.mem_of_getElem? hx
      have hxs := HF.out.short x hxm
      obtain ⟨ht0, ht1⟩ := HF.out.tok x hxm
      have Hst : Hid ((n.places.take (k + 1)).flatMap placeT = (n.places.take k).flatMap placeT ++ placeT x) := Lib.hid (flat_snoc placeT hx)
      obtain ⟨nm, hnm⟩ : ∃ nm, nm = x.name := ⟨_, rfl⟩
      obtain ⟨tk, htk⟩ : ∃ tk, tk = x.tok := ⟨_, rfl⟩
      rw [← hnm] at e0 hxs
      rw [← htk] at e1 ht0 ht1
      obtain ⟨z1, hz1⟩ : ∃ z, z = bs ([112, 108, 97, 99, 101, 32] ++ nb nm) := ⟨_, rfl⟩
      obtain ⟨z2, hz2⟩ : ∃ z, z = bs ((n.places.take k).flatMap placeT ++ ([112, 108, 97, 99, 101, 32] ++ nb nm)) := ⟨_, rfl⟩
      obtain ⟨S2, hS2⟩ : ∃ z, z = bs ((n.places.take (k + 1)).flatMap placeT) := ⟨_, rfl⟩
      have q1 : ({ data := #[112, 108, 97, 99, 101, 32] } : ByteArray) ++ nm = z1 := by rw [hz1, ← bs_cat, bs_nb]; rfl
      have q2 : S ++ z1 = z2 := by rw [HS.out, hz1, hz2, bs_cat]
      have s1 : z1.size ≤ 18 := by rw [hz1, bs_size, List.length_append, nb_len]; simp; omega
      have s2 : z2.size ≤ 1300 := by rw [← q2, ByteArray.size_append]; omega
      have HS2 := Lib.hid hS2
      have hpt : placeT x = ([112, 108, 97, 99, 101, 32] ++ nb nm) ++ (optT [32, 61, 32] 0 tk ++ [59, 10]) := by unfold placeT; rw [← hnm, ← htk]; simp
      by_cases hz : tk = 0
      · have hzb : (tk == 0) = true := by simpa using hz
        have q5 : z2 ++ { data := #[59, 10] } = S2 := by
          rw [hz2, hS2, Hst.out, hpt]
          exact cat_eq (b := [59, 10]) (by simp [optT, hz])
        clear hx hin hxm hnm htk hz1 hz2 hS2 hpt hz Hst ht0 ht1
        go_wp2
        go_roundw
        case rel => exact ⟨k + 1, by omega, by go_num, Hin.out, S2, rfl, HS2⟩
        case measure => simp [intOf]; omega
      · have hzb : (tk == 0) = false := by simpa using hz
        obtain ⟨m, rfl⟩ : ∃ m : Nat, tk = (m : Int) := ⟨tk.toNat, by omega⟩
        obtain ⟨D, hD⟩ : ∃ D, D = bs (digs m) := ⟨_, rfl⟩
        obtain ⟨E, hE⟩ : ∃ E, E = bs ([32, 61, 32] ++ digs m) := ⟨_, rfl⟩
        obtain ⟨z4, hz4⟩ : ∃ z, z = bs ((n.places.take k).flatMap placeT ++ ([112, 108, 97, 99, 101, 32] ++ nb nm) ++ ([32, 61, 32] ++ digs m)) := ⟨_, rfl⟩
        have q3 : ({ data := #[32, 61, 32] } : ByteArray) ++ D = E := by rw [hD, hE, ← bs_cat]; rfl
        have q4 : z2 ++ E = z4 := by rw [hz2, hE, hz4, bs_cat]
        have hl := (digs_all (n := m) (by omega)).2.2.1
        have s3 : D.size ≤ 8 := by rw [hD, bs_size]; exact hl
        have s4 : E.size ≤ 11 := by rw [hE, bs_size, List.length_append]; simp; omega
        have s5 : z4.size ≤ 1311 := by rw [← q4, ByteArray.size_append]; omega
        have q5 : z4 ++ { data := #[59, 10] } = S2 := by
          rw [hz4, hS2, Hst.out, hpt, show optT [32, 61, 32] 0 (m : Int) = [32, 61, 32] ++ digs m by unfold optT; rw [if_neg hz, Int.toNat_natCast]]
          exact cat_eq (b := [59, 10]) (by simp)
        have hdg := digits_any m (by omega) v1
        rw [← hD] at hdg
        clear hx hin hxm hnm htk hz1 hz2 hS2 hpt hz Hst ht0 hD hE hz4 hl
        go_wp2_with fail
        refine hdg.mono ?_
        rintro e w5 ⟨rfl, hb5⟩
        have Hin5 := Lib.hid (Hin.out.go hb5)
        clear hb5 hdg
        go_wp2
        go_roundw
        case rel => exact ⟨k + 1, by omega, by go_num, Hin5.out, S2, rfl, HS2⟩
        case measure => simp [intOf]; omega
    · have hge : ¬ (k : Int) < (np : Int) := by omega
      obtain rfl : np = k := by omega
      have HSP : Hid (S = bs (n.places.flatMap placeT)) := Lib.hid (by rw [HS.out, Hnp.out, List.take_length])
      clear hin HS
      go_wp2
      clear b0 b1 blt
      go_loopw [3, 5] (fun s i wr => ∃ k : Nat, k ≤ nt ∧ i = .int .i64 k ∧ InBox w wr (.slice ap np cp) (.slice at_ nt ct) ∧ ∃ S, s = .string S ∧ Hid (S = bs (n.places.flatMap placeT ++ (n.trans.take k).flatMap (transT n.places)))) (fun _ i _ => nt - (intOf i).toNat)
      case atStart => exact ⟨0, by omega, rfl, Hin.out, _, rfl, Lib.hid (by rw [HSP.out]; simp)⟩
      case round =>
        rename World => v2
        obtain ⟨j, hj, rfl, hin2, S0, rfl, HS0⟩ := hrel
        have b0 := hin2.c0
        have b1 := hin2.c1
        have blt := hin2.size
        have hSs0 : S0.size ≤ 23680 := by
          rw [HS0.out, bs_size, List.length_append]
          have h1 := HlenT.out j
          have h2 := Hlen.out np
          rw [Hnp.out, List.take_length, ← Hnp.out] at h2
          omega
        have Hin2 := Lib.hid hin2
        by_cases hlt2 : j < nt
        · have hlti2 : (j : Int) < (nt : Int) := by omega
          obtain ⟨t, ht⟩ := at_lt (l := n.trans) (k := j) (by rw [← Hnt.out]; exact hlt2)
          obtain ⟨bt, offt, a1, c1, a2, c2, a3, c3, e, hbt, t0, t1, t2, t3, t4, t5, g1, g2, g3⟩ := TrsAt.at_ (HT.out.below hin2.old) (by rw [Htl.out]; exact ht)
          subst e
          have htm := List.mem_of_getElem? ht
          obtain ⟨f1, f2, f3, f4, f5, f6⟩ := HF.out.trs t htm
          have Hst : Hid (n.places.flatMap placeT ++ (n.trans.take (j + 1)).flatMap (transT n.places) = n.places.flatMap placeT ++ (n.trans.take j).flatMap (transT n.places) ++ transT n.places t) := Lib.hid (by rw [flat_snoc (transT n.places) ht]; simp)
          obtain ⟨B0, hB0⟩ : ∃ B, B = n.places.flatMap placeT ++ (n.trans.take j).flatMap (transT n.places) := ⟨_, rfl⟩
          rw [← hB0] at HS0 Hst
          have Harc : Hid (∀ a, a ∈ t.inn ∨ a ∈ t.nt ∨ a ∈ t.out → 0 ≤ a.1 ∧ a.1 < n.places.length ∧ 1 ≤ a.2 ∧ a.2 ≤ 1000000) := Lib.hid (HF.out.arc t htm)
          obtain ⟨l1, hl1⟩ : ∃ l, l = t.inn := ⟨_, rfl⟩
          obtain ⟨l2, hl2⟩ : ∃ l, l = t.nt := ⟨_, rfl⟩
          obtain ⟨l3, hl3⟩ : ∃ l, l = t.out := ⟨_, rfl⟩
          obtain ⟨nm, hnm⟩ : ∃ nm, nm = t.name := ⟨_, rfl⟩
          obtain ⟨dl, hdl⟩ : ∃ nm, nm = t.delay := ⟨_, rfl⟩
          obtain ⟨pr, hpr⟩ : ∃ nm, nm = t.prio := ⟨_, rfl⟩
          have Htt : Hid (transT n.places t = ([116, 114, 97, 110, 115, 32] ++ nb nm) ++ optT [32, 64] 0 dl ++ optT [32, 33] 0 pr ++ [58] ++ arcsT n.places [] [32] l1 ++ arcsT n.places [126] (sepT [32] l1) l2 ++ [32, 45, 62] ++ arcsT n.places [] [32] l3 ++ [59, 10]) := Lib.hid (by unfold transT headT; rw [hl1, hl2, hl3, hnm, hdl, hpr])
          rw [← hl1] at t3 g1 f4 Harc
          rw [← hl2] at t4 g2 f5 Harc
          rw [← hl3] at t5 g3 f6 Harc
          rw [← hnm] at t0 f1
          rw [← hdl] at t1 f2
          rw [← hpr] at t2 f3
          obtain ⟨m1, hm1⟩ : ∃ m, m = l1.length := ⟨_, rfl⟩
          obtain ⟨m2, hm2⟩ : ∃ m, m = l2.length := ⟨_, rfl⟩
          obtain ⟨m3, hm3⟩ : ∃ m, m = l3.length := ⟨_, rfl⟩
          rw [← hm1] at t3 f4 g1
          rw [← hm2] at t4 f5 g2
          rw [← hm3] at t5 f6 g3
          have Hm1 := Lib.hid hm1
          have Hm2 := Lib.hid hm2
          have Hm3 := Lib.hid hm3
          have G1 := Lib.hid g1
          have G2 := Lib.hid g2
          have G3 := Lib.hid g3
          have HShort := Lib.hid HF.out.short
          obtain ⟨z1, hz1⟩ : ∃ z, z = bs ([116, 114, 97, 110, 115, 32] ++ nb nm) := ⟨_, rfl⟩
          obtain ⟨z2, hz2⟩ : ∃ z, z = bs (B0 ++ ([116, 114, 97, 110, 115, 32] ++ nb nm)) := ⟨_, rfl⟩
          have q1 : ({ data := #[116, 114, 97, 110, 115, 32] } : ByteArray) ++ nm = z1 := by rw [hz1, ← bs_cat, bs_nb]; rfl
          have q2 : S0 ++ z1 = z2 := by rw [HS0.out, hz1, hz2, bs_cat]
          have s1 : z1.size ≤ 18 := by rw [hz1, bs_size, List.length_append, nb_len]; simp; omega
          have s2 : z2.size ≤ 23700 := by rw [← q2, ByteArray.size_append]; omega
          obtain ⟨z3, hz3⟩ : ∃ z, z = bs (B0 ++ ([116, 114, 97, 110, 115, 32] ++ nb nm) ++ optT [32, 64] 0 dl) := ⟨_, rfl⟩
          obtain ⟨z4, hz4⟩ : ∃ z, z = bs (B0 ++ ([116, 114, 97, 110, 115, 32] ++ nb nm) ++ optT [32, 64] 0 dl ++ optT [32, 33] 0 pr) := ⟨_, rfl⟩
          have o1 := optT_len (s := [32, 64]) (d := 0) f2.2
          have o2 := optT_len (s := [32, 33]) (d := 0) f3.2
          have s3 : z3.size ≤ 23720 := by rw [hz3, bs_size, List.length_append, ← bs_size (B0 ++ _), ← hz2]; simp at o1; omega
          have s4 : z4.size ≤ 23740 := by rw [hz4, bs_size, List.length_append, ← bs_size (B0 ++ _ ++ _), ← hz3]; simp at o2; omega
          have HT0 := Lib.hid (InTr.start v2 nm dl pr (.slice a1 m1 c1) (.slice a2 m2 c2) (.slice a3 m3 c3))
          have Hz2 := Lib.hid hz2
          have Hz3 := Lib.hid hz3
          have Hz4 := Lib.hid hz4
          have HB0 := Lib.hid hB0
          clear ht hin2 htm hB0 hl1 hl2 hl3 hnm hdl hpr hm1 hm2 hm3 g1 g2 g3 hz1 hz2 hz3 hz4 o1 o2
          go_upto_if 65 with (fail)
          go_cut [3] from 46 to 141 (fun s3 wc => s3 = .string z3 ∧ InTr v2 wc nm dl pr (.slice a1 m1 c1) (.slice a2 m2 c2) (.slice a3 m3 c3))
          case first =>
            by_cases hz : dl = 0
            · have hzb : (dl == 0) = true := by simpa using hz
              have Hq : Hid (z2 = z3) := Lib.hid (by rw [Hz2.out, Hz3.out, show optT [32, 64] 0 dl = [] from if_pos hz]; simp)
              clear hz
              go_wp2
              go_meet
              case rel => exact ⟨by rw [Hq.out], HT0.out⟩
            · have hzb : (dl == 0) = false := by simpa using hz
              obtain ⟨m, rfl⟩ : ∃ m : Nat, dl = (m : Int) := ⟨dl.toNat, by omega⟩
              obtain ⟨D, hD⟩ : ∃ D, D = bs (digs m) := ⟨_, rfl⟩
              obtain ⟨E, hE⟩ : ∃ E, E = bs ([32, 64] ++ digs m) := ⟨_, rfl⟩
              have q3 : ({ data := #[32, 64] } : ByteArray) ++ D = E := by rw [hD, hE, ← bs_cat]; rfl
              have q4 : z2 ++ E = z3 := by rw [Hz2.out, hE, Hz3.out, bs_cat, show optT [32, 64] 0 (m : Int) = [32, 64] ++ digs m by unfold optT; rw [if_neg hz, Int.toNat_natCast]]
              have hl := (digs_all (n := m) (by omega)).2.2.1
              have s5 : D.size ≤ 8 := by rw [hD, bs_size]; exact hl
              have s6 : E.size ≤ 10 := by rw [hE, bs_size, List.length_append]; simp; omega
              have hdg := digits_any m (by omega) (v2.alloc (.cells #[.string nm, .int .i64 (m : Int), .int .i64 pr, .slice a1 m1 c1, .slice a2 m2 c2, .slice a3 m3 c3] 40))
              rw [← hD] at hdg
              clear hD hE hl hz
              go_wp2_with fail
              refine hdg.mono ?_
              rintro e w5 ⟨rfl, hb5⟩
              have HT5 := Lib.hid (HT0.out.go hb5)
              clear hb5 hdg
              go_wp2
              go_meet
              case rel => exact ⟨rfl, HT5.out⟩
          case rest =>
            obtain ⟨rfl, hT1⟩ := hcut
            rename World => v3
            have k2 := hT1.c2
            have klt := hT1.size
            have HT1 := Lib.hid hT1
            clear hT1 HT0
            go_upto_if 74 with (fail)
            go_cut [3] from 46 to 141 (fun s3 wc => s3 = .string z4 ∧ InTr v2 wc nm dl pr (.slice a1 m1 c1) (.slice a2 m2 c2) (.slice a3 m3 c3))
            case first =>
              by_cases hz : pr = 0
              · have hzb : (pr == 0) = true := by simpa using hz
                have Hq : Hid (z3 = z4) := Lib.hid (by rw [Hz3.out, Hz4.out, show optT [32, 33] 0 pr = [] from if_pos hz]; simp)
                clear hz
                go_wp2
                go_meet
                case rel => exact ⟨by rw [Hq.out], HT1.out⟩
              · have hzb : (pr == 0) = false := by simpa using hz
                obtain ⟨m, rfl⟩ : ∃ m : Nat, pr = (m : Int) := ⟨pr.toNat, by omega⟩
                obtain ⟨D, hD⟩ : ∃ D, D = bs (digs m) := ⟨_, rfl⟩
                obtain ⟨E, hE⟩ : ∃ E, E = bs ([32, 33] ++ digs m) := ⟨_, rfl⟩
                have q3 : ({ data := #[32, 33] } : ByteArray) ++ D = E := by rw [hD, hE, ← bs_cat]; rfl
                have q4 : z3 ++ E = z4 := by rw [Hz3.out, hE, Hz4.out, bs_cat, show optT [32, 33] 0 (m : Int) = [32, 33] ++ digs m by unfold optT; rw [if_neg hz, Int.toNat_natCast]]
                have hl := (digs_all (n := m) (by omega)).2.2.1
                have s5 : D.size ≤ 8 := by rw [hD, bs_size]; exact hl
                have s6 : E.size ≤ 10 := by rw [hE, bs_size, List.length_append]; simp; omega
                have hdg := digits_any m (by omega) v3
                rw [← hD] at hdg
                clear hD hE hl hz
                go_wp2_with fail
                refine hdg.mono ?_
                rintro e w5 ⟨rfl, hb5⟩
                have HT5 := Lib.hid (HT1.out.go hb5)
                clear hb5 hdg
                go_wp2
                go_meet
                case rel => exact ⟨rfl, HT5.out⟩
            case rest =>
              obtain ⟨rfl, hT2⟩ := hcut
              rename World => v4
              clear k2 klt HT1
              obtain ⟨P5, hP5⟩ : ∃ P, P = B0 ++ ([116, 114, 97, 110, 115, 32] ++ nb nm) ++ optT [32, 64] 0 dl ++ optT [32, 33] 0 pr ++ [58] := ⟨_, rfl⟩
              obtain ⟨z5, hz5⟩ : ∃ z, z = bs P5 := ⟨_, rfl⟩
              have q5 : z4 ++ { data := #[58] } = z5 := by rw [Hz4.out, hz5, hP5]; exact cat_eq (b := [58]) rfl
              have HPl1 : Hid (P5.length ≤ 23741) := Lib.hid (by
                have e := congrArg ByteArray.size q5
                rw [ByteArray.size_append, hz5, bs_size] at e
                rw [← e]
                show z4.size + 1 ≤ _
                omega)
              have HSa1 := Lib.hid hz5
              have HP5 := Lib.hid hP5
              have HTa1 := Lib.hid hT2
              clear hT2 hz5 hP5
              go_wp2
              go_loopw [3, 7, 8] (fun s sp i wr => ∃ k : Nat, k ≤ m1 ∧ i = .int .i64 k ∧ InTr v2 wr nm dl pr (.slice a1 m1 c1) (.slice a2 m2 c2) (.slice a3 m3 c3) ∧ (∃ S, s = .string S ∧ Hid (S = bs (P5 ++ arcsT n.places [] [32] (l1.take k)))) ∧ ∃ E, sp = .string E ∧ Hid (E = bs (sepT [32] (l1.take k)))) (fun _ _ i _ => m1 - (intOf i).toNat)
              case atStart => exact ⟨0, by omega, rfl, HTa1.out, ⟨_, rfl, Lib.hid (by rw [HSa1.out]; simp [arcsT])⟩, _, rfl, Lib.hid rfl⟩
              case round =>
                rename World => x1
                obtain ⟨k, hk, rfl, hT, ⟨S, rfl, HS⟩, E, rfl, HE⟩ := hrel
                have k3 := hT.c3
                have klt := hT.size
                have hSs : S.size ≤ 23741 + 192 := by
                  rw [HS.out, bs_size, List.length_append]
                  have h1 := arcsT_bd HShort.out (mark := []) (by simp) (by rw [← Hm1.out]; exact f4) (fun a ha => (Harc.out a (.inl ha)).2.2.2) k [32] (by simp)
                  have h2 := HPl1.out
                  omega
                have hEs : E.size ≤ 2 := by rw [HE.out, bs_size]; exact sepT_bd (by simp) _
                have HT_ := Lib.hid hT
                by_cases hlt3 : k < m1
                · have hlti3 : (k : Int) < (m1 : Int) := by omega
                  obtain ⟨⟨x, y⟩, hx⟩ := at_lt (l := l1) (k := k) (by rw [← Hm1.out]; exact hlt3)
                  obtain ⟨b, off, rfl, hb, e0, e1⟩ := ArcsAt.at_ (G1.out.below hT.old) hx
                  obtain ⟨r1, r2, r3, r4⟩ := Harc.out (x, y) (.inl (List.mem_of_getElem? hx))
                  simp only at r1 r2 r3 r4
                  have hbx := Hin2.out.go hT.old
                  have b0' := hbx.c0
                  have b1' := hbx.c1
                  have blt' := hbx.size
                  obtain ⟨A, hA⟩ : ∃ A, A = bs (arcT n.places (x, y)) := ⟨_, rfl⟩
                  have K1 : Hid (∀ p : NewBy x1, Calls Try.prog 30 #[.agg #[.slice ap np cp, .slice (some ⟨bt, offt, none⟩) nt ct], .agg #[.int .i64 x, .int .i64 y]] p.to fun e w' => e = .returned (.string A) ∧ Below p.to.heap.size p.to w') := Lib.hid (fun p => by
                    have := rarc_any (a2 := some ⟨bt, offt, none⟩) (n2 := nt) (c2 := ct) ((HP.out.below hbx.old).below p.below) Hnp.out r1 (by rw [Hnp.out]; exact r2) r3 r4 HShort.out
                    rw [hA]; exact this)
                  have sA : A.size ≤ 21 := by rw [hA, bs_size]; exact arcT_len HShort.out r4
                  have m0 := fun p : NewBy x1 => NewBy.cell blt' b0' p
                  have m1_ := fun p : NewBy x1 => NewBy.cell blt' b1' p
                  have m2_ := fun p : NewBy x1 => NewBy.cell klt k3 p
                  have m3_ := fun p : NewBy x1 => NewBy.cell hb e0 p
                  have m4_ := fun p : NewBy x1 => NewBy.cell hb e1 p
                  have ml0 := fun p : NewBy x1 => Nat.lt_of_lt_of_le blt' p.below.size
                  have ml1 := fun p : NewBy x1 => Nat.lt_of_lt_of_le klt p.below.size
                  have ml2 := fun p : NewBy x1 => Nat.lt_of_lt_of_le hb p.below.size
                  obtain ⟨ez, hez⟩ : ∃ z, z = bs (sepT [32] (l1.take k) ++ []) := ⟨_, rfl⟩
                  obtain rfl : ez = E := by rw [HE.out, hez]; simp
                  have sE : ez.size ≤ 3 := by omega
                  obtain ⟨z1, hz1⟩ : ∃ z, z = bs (sepT [32] (l1.take k) ++ [] ++ arcT n.places (x, y)) := ⟨_, rfl⟩
                  obtain ⟨S2, hS2⟩ : ∃ z, z = bs (P5 ++ arcsT n.places [] [32] (l1.take (k + 1))) := ⟨_, rfl⟩
                  have q3 : ez ++ A = z1 := by rw [hez, hA, hz1, bs_cat]
                  have q4 : S ++ z1 = S2 := by rw [HS.out, hz1, hS2, take_at hx, arcsT_snoc]; exact cat_eq (by simp)
                  have s5 : z1.size ≤ 24 := by rw [← q3, ByteArray.size_append]; omega
                  have n1 : ¬ 9223372036854775807 < ez.size + A.size := by omega
                  have n2 : ¬ 9223372036854775807 < S.size + z1.size := by omega
                  have HS2 := Lib.hid hS2
                  have HE2 : Hid (({ data := #[44, 32] } : ByteArray) = bs (sepT [32] (l1.take (k + 1)))) := Lib.hid (by rw [take_at hx, sepT_snoc]; rfl)
                  clear hx hT hbx hA hez hz1 hS2 r1 r2 r3 r4 HE HS
                  go_wp2
                  refine wp_region_new (by kernel_rfl) (by kernel_rfl) ?_
                  repeat (go_big_quiet_step (first | (go_at_call 30; exact Calls.new_of (K1.out _))))
                  refine wpQuiet_nil ?_
                  intro wz hz
                  obtain ⟨pz, hz⟩ := hz
                  subst hz
                  have HTz := Lib.hid (HT_.out.go pz.below)
                  clear m0 m1_ m2_ m3_ m4_ ml0 ml1 ml2 K1 HT_
                  go_wp2
                  go_roundw
                  case rel => exact ⟨k + 1, by omega, by go_num, HTz.out, ⟨S2, rfl, HS2⟩, _, rfl, HE2⟩
                  case measure => simp [intOf]; omega
                · have hge3 : ¬ (k : Int) < (m1 : Int) := by omega
                  obtain rfl : m1 = k := by omega
                  clear hT
                  have HTa2 := HT_
                  obtain ⟨P6, hP6⟩ : ∃ P, P = P5 ++ arcsT n.places [] [32] l1 := ⟨_, rfl⟩
                  have HSa2 : Hid (S = bs P6) := Lib.hid (by rw [HS.out, hP6, Hm1.out, List.take_length])
                  have HEa2 : Hid (E = bs (sepT [32] l1)) := Lib.hid (by rw [HE.out, Hm1.out, List.take_length])
                  have HPl2 : Hid (P6.length ≤ 23933) := Lib.hid (by rw [← bs_size, ← HSa2.out]; exact hSs)
                  have HP6 := Lib.hid hP6
                  clear hP6 HS HE HT_
                  go_wp2
                  clear k3 klt
                  go_loopw [3, 7, 9] (fun s sp i wr => ∃ k : Nat, k ≤ m2 ∧ i = .int .i64 k ∧ InTr v2 wr nm dl pr (.slice a1 m1 c1) (.slice a2 m2 c2) (.slice a3 m3 c3) ∧ (∃ S, s = .string S ∧ Hid (S = bs (P6 ++ arcsT n.places [126] (sepT [32] l1) (l2.take k)))) ∧ ∃ E, sp = .string E ∧ Hid (E = bs (sepT (sepT [32] l1) (l2.take k)))) (fun _ _ i _ => m2 - (intOf i).toNat)
                  case atStart => exact ⟨0, by omega, rfl, HTa2.out, ⟨_, rfl, Lib.hid (by rw [HSa2.out]; simp [arcsT])⟩, _, rfl, Lib.hid (by rw [HEa2.out]; simp [sepT])⟩
                  case round =>
                    rename World => x2
                    obtain ⟨k, hk, rfl, hT, ⟨S, rfl, HS⟩, E, rfl, HE⟩ := hrel
                    have k3 := hT.c4
                    have klt := hT.size
                    have hSs : S.size ≤ 23933 + 192 := by
                      rw [HS.out, bs_size, List.length_append]
                      have h1 := arcsT_bd HShort.out (mark := [126]) (by simp) (by rw [← Hm2.out]; exact f5) (fun a ha => (Harc.out a (.inr (.inl ha))).2.2.2) k (sepT [32] l1) (sepT_bd (by simp) _)
                      have h2 := HPl2.out
                      omega
                    have hEs : E.size ≤ 2 := by rw [HE.out, bs_size]; exact sepT_bd (sepT_bd (by simp) _) _
                    have HT_ := Lib.hid hT
                    by_cases hlt3 : k < m2
                    · have hlti3 : (k : Int) < (m2 : Int) := by omega
                      obtain ⟨⟨x, y⟩, hx⟩ := at_lt (l := l2) (k := k) (by rw [← Hm2.out]; exact hlt3)
                      obtain ⟨b, off, rfl, hb, e0, e1⟩ := ArcsAt.at_ (G2.out.below hT.old) hx
                      obtain ⟨r1, r2, r3, r4⟩ := Harc.out (x, y) (.inr (.inl (List.mem_of_getElem? hx)))
                      simp only at r1 r2 r3 r4
                      have hbx := Hin2.out.go hT.old
                      have b0' := hbx.c0
                      have b1' := hbx.c1
                      have blt' := hbx.size
                      obtain ⟨A, hA⟩ : ∃ A, A = bs (arcT n.places (x, y)) := ⟨_, rfl⟩
                      have K1 : Hid (∀ p : NewBy x2, Calls Try.prog 30 #[.agg #[.slice ap np cp, .slice (some ⟨bt, offt, none⟩) nt ct], .agg #[.int .i64 x, .int .i64 y]] p.to fun e w' => e = .returned (.string A) ∧ Below p.to.heap.size p.to w') := Lib.hid (fun p => by
                        have := rarc_any (a2 := some ⟨bt, offt, none⟩) (n2 := nt) (c2 := ct) ((HP.out.below hbx.old).below p.below) Hnp.out r1 (by rw [Hnp.out]; exact r2) r3 r4 HShort.out
                        rw [hA]; exact this)
                      have sA : A.size ≤ 21 := by rw [hA, bs_size]; exact arcT_len HShort.out r4
                      have m0 := fun p : NewBy x2 => NewBy.cell blt' b0' p
                      have m1_ := fun p : NewBy x2 => NewBy.cell blt' b1' p
                      have m2_ := fun p : NewBy x2 => NewBy.cell klt k3 p
                      have m3_ := fun p : NewBy x2 => NewBy.cell hb e0 p
                      have m4_ := fun p : NewBy x2 => NewBy.cell hb e1 p
                      have ml0 := fun p : NewBy x2 => Nat.lt_of_lt_of_le blt' p.below.size
                      have ml1 := fun p : NewBy x2 => Nat.lt_of_lt_of_le klt p.below.size
                      have ml2 := fun p : NewBy x2 => Nat.lt_of_lt_of_le hb p.below.size
                      obtain ⟨ez, hez⟩ : ∃ z, z = bs (sepT (sepT [32] l1) (l2.take k) ++ [126]) := ⟨_, rfl⟩
                      have q0 : E ++ { data := #[126] } = ez := by rw [HE.out, hez]; exact cat_eq (b := [126]) rfl
                      have sE : ez.size ≤ 3 := by rw [← q0, ByteArray.size_append]; show E.size + 1 ≤ 3; omega
                      have n0 : ¬ 9223372036854775807 < E.size + 1 := by omega
                      obtain ⟨z1, hz1⟩ : ∃ z, z = bs (sepT (sepT [32] l1) (l2.take k) ++ [126] ++ arcT n.places (x, y)) := ⟨_, rfl⟩
                      obtain ⟨S2, hS2⟩ : ∃ z, z = bs (P6 ++ arcsT n.places [126] (sepT [32] l1) (l2.take (k + 1))) := ⟨_, rfl⟩
                      have q3 : ez ++ A = z1 := by rw [hez, hA, hz1, bs_cat]
                      have q4 : S ++ z1 = S2 := by rw [HS.out, hz1, hS2, take_at hx, arcsT_snoc]; exact cat_eq (by simp)
                      have s5 : z1.size ≤ 24 := by rw [← q3, ByteArray.size_append]; omega
                      have n1 : ¬ 9223372036854775807 < ez.size + A.size := by omega
                      have n2 : ¬ 9223372036854775807 < S.size + z1.size := by omega
                      have HS2 := Lib.hid hS2
                      have HE2 : Hid (({ data := #[44, 32] } : ByteArray) = bs (sepT (sepT [32] l1) (l2.take (k + 1)))) := Lib.hid (by rw [take_at hx, sepT_snoc]; rfl)
                      clear hx hT hbx hA hez hz1 hS2 r1 r2 r3 r4 HE HS
                      go_wp2
                      refine wp_region_new (by kernel_rfl) (by kernel_rfl) ?_
                      repeat (go_big_quiet_step (first | (go_at_call 30; exact Calls.new_of (K1.out _))))
                      refine wpQuiet_nil ?_
                      intro wz hz
                      obtain ⟨pz, hz⟩ := hz
                      subst hz
                      have HTz := Lib.hid (HT_.out.go pz.below)
                      clear m0 m1_ m2_ m3_ m4_ ml0 ml1 ml2 K1 HT_
                      go_wp2
                      go_roundw
                      case rel => exact ⟨k + 1, by omega, by go_num, HTz.out, ⟨S2, rfl, HS2⟩, _, rfl, HE2⟩
                      case measure => simp [intOf]; omega
                    · have hge3 : ¬ (k : Int) < (m2 : Int) := by omega
                      obtain rfl : m2 = k := by omega
                      clear hT
                      obtain ⟨P7, hP7⟩ : ∃ P, P = P6 ++ arcsT n.places [126] (sepT [32] l1) l2 ++ [32, 45, 62] := ⟨_, rfl⟩
                      obtain ⟨z7, hz7⟩ : ∃ z, z = bs P7 := ⟨_, rfl⟩
                      have q7 : S ++ { data := #[32, 45, 62] } = z7 := by rw [HS.out, hz7, hP7, Hm2.out, List.take_length]; exact cat_eq (b := [32, 45, 62]) rfl
                      have HSa3 := Lib.hid hz7
                      have HPl3 : Hid (P7.length ≤ 24128) := Lib.hid (by
                        have e := congrArg ByteArray.size q7
                        rw [ByteArray.size_append, hz7, bs_size] at e
                        rw [← e]
                        show S.size + 3 ≤ _
                        omega)
                      have HP7 := Lib.hid hP7
                      have HTa3 := HT_
                      clear hP7 hz7 HS HE HT_
                      go_wp2
                      clear k3 klt
                      go_loopw [3, 7, 10] (fun s sp i wr => ∃ k : Nat, k ≤ m3 ∧ i = .int .i64 k ∧ InTr v2 wr nm dl pr (.slice a1 m1 c1) (.slice a2 m2 c2) (.slice a3 m3 c3) ∧ (∃ S, s = .string S ∧ Hid (S = bs (P7 ++ arcsT n.places [] [32] (l3.take k)))) ∧ ∃ E, sp = .string E ∧ Hid (E = bs (sepT [32] (l3.take k)))) (fun _ _ i _ => m3 - (intOf i).toNat)
                      case atStart => exact ⟨0, by omega, rfl, HTa3.out, ⟨_, rfl, Lib.hid (by rw [HSa3.out]; simp [arcsT])⟩, _, rfl, Lib.hid rfl⟩
                      case round =>
                        rename World => x3
                        obtain ⟨k, hk, rfl, hT, ⟨S, rfl, HS⟩, E, rfl, HE⟩ := hrel
                        have k3 := hT.c5
                        have klt := hT.size
                        have hSs : S.size ≤ 24128 + 192 := by
                          rw [HS.out, bs_size, List.length_append]
                          have h1 := arcsT_bd HShort.out (mark := []) (by simp) (by rw [← Hm3.out]; exact f6) (fun a ha => (Harc.out a (.inr (.inr ha))).2.2.2) k [32] (by simp)
                          have h2 := HPl3.out
                          omega
                        have hEs : E.size ≤ 2 := by rw [HE.out, bs_size]; exact sepT_bd (by simp) _
                        have HT_ := Lib.hid hT
                        by_cases hlt3 : k < m3
                        · have hlti3 : (k : Int) < (m3 : Int) := by omega
                          obtain ⟨⟨x, y⟩, hx⟩ := at_lt (l := l3) (k := k) (by rw [← Hm3.out]; exact hlt3)
                          obtain ⟨b, off, rfl, hb, e0, e1⟩ := ArcsAt.at_ (G3.out.below hT.old) hx
                          obtain ⟨r1, r2, r3, r4⟩ := Harc.out (x, y) (.inr (.inr (List.mem_of_getElem? hx)))
                          simp only at r1 r2 r3 r4
                          have hbx := Hin2.out.go hT.old
                          have b0' := hbx.c0
                          have b1' := hbx.c1
                          have blt' := hbx.size
                          obtain ⟨A, hA⟩ : ∃ A, A = bs (arcT n.places (x, y)) := ⟨_, rfl⟩
                          have K1 : Hid (∀ p : NewBy x3, Calls Try.prog 30 #[.agg #[.slice ap np cp, .slice (some ⟨bt, offt, none⟩) nt ct], .agg #[.int .i64 x, .int .i64 y]] p.to fun e w' => e = .returned (.string A) ∧ Below p.to.heap.size p.to w') := Lib.hid (fun p => by
                            have := rarc_any (a2 := some ⟨bt, offt, none⟩) (n2 := nt) (c2 := ct) ((HP.out.below hbx.old).below p.below) Hnp.out r1 (by rw [Hnp.out]; exact r2) r3 r4 HShort.out
                            rw [hA]; exact this)
                          have sA : A.size ≤ 21 := by rw [hA, bs_size]; exact arcT_len HShort.out r4
                          have m0 := fun p : NewBy x3 => NewBy.cell blt' b0' p
                          have m1_ := fun p : NewBy x3 => NewBy.cell blt' b1' p
                          have m2_ := fun p : NewBy x3 => NewBy.cell klt k3 p
                          have m3_ := fun p : NewBy x3 => NewBy.cell hb e0 p
                          have m4_ := fun p : NewBy x3 => NewBy.cell hb e1 p
                          have ml0 := fun p : NewBy x3 => Nat.lt_of_lt_of_le blt' p.below.size
                          have ml1 := fun p : NewBy x3 => Nat.lt_of_lt_of_le klt p.below.size
                          have ml2 := fun p : NewBy x3 => Nat.lt_of_lt_of_le hb p.below.size
                          obtain ⟨ez, hez⟩ : ∃ z, z = bs (sepT [32] (l3.take k) ++ []) := ⟨_, rfl⟩
                          obtain rfl : ez = E := by rw [HE.out, hez]; simp
                          have sE : ez.size ≤ 3 := by omega
                          obtain ⟨z1, hz1⟩ : ∃ z, z = bs (sepT [32] (l3.take k) ++ [] ++ arcT n.places (x, y)) := ⟨_, rfl⟩
                          obtain ⟨S2, hS2⟩ : ∃ z, z = bs (P7 ++ arcsT n.places [] [32] (l3.take (k + 1))) := ⟨_, rfl⟩
                          have q3 : ez ++ A = z1 := by rw [hez, hA, hz1, bs_cat]
                          have q4 : S ++ z1 = S2 := by rw [HS.out, hz1, hS2, take_at hx, arcsT_snoc]; exact cat_eq (by simp)
                          have s5 : z1.size ≤ 24 := by rw [← q3, ByteArray.size_append]; omega
                          have n1 : ¬ 9223372036854775807 < ez.size + A.size := by omega
                          have n2 : ¬ 9223372036854775807 < S.size + z1.size := by omega
                          have HS2 := Lib.hid hS2
                          have HE2 : Hid (({ data := #[44, 32] } : ByteArray) = bs (sepT [32] (l3.take (k + 1)))) := Lib.hid (by rw [take_at hx, sepT_snoc]; rfl)
                          clear hx hT hbx hA hez hz1 hS2 r1 r2 r3 r4 HE HS
                          go_wp2
                          refine wp_region_new (by kernel_rfl) (by kernel_rfl) ?_
                          repeat (go_big_quiet_step (first | (go_at_call 30; exact Calls.new_of (K1.out _))))
                          refine wpQuiet_nil ?_
                          intro wz hz
                          obtain ⟨pz, hz⟩ := hz
                          subst hz
                          have HTz := Lib.hid (HT_.out.go pz.below)
                          clear m0 m1_ m2_ m3_ m4_ ml0 ml1 ml2 K1 HT_
                          go_wp2
                          go_roundw
                          case rel => exact ⟨k + 1, by omega, by go_num, HTz.out, ⟨S2, rfl, HS2⟩, _, rfl, HE2⟩
                          case measure => simp [intOf]; omega
                        · have hge3 : ¬ (k : Int) < (m3 : Int) := by omega
                          obtain rfl : m3 = k := by omega
                          clear hT
                          obtain ⟨S9, hS9⟩ : ∃ z, z = bs (n.places.flatMap placeT ++ (n.trans.take (j + 1)).flatMap (transT n.places)) := ⟨_, rfl⟩
                          have q9 : S ++ { data := #[59, 10] } = S9 := by
                            rw [HS.out, hS9, Hst.out, Htt.out, Hm3.out, List.take_length, HP7.out, HP6.out, HP5.out]
                            exact cat_eq (b := [59, 10]) (by simp)
                          have HS9 := Lib.hid hS9
                          have HI9 := Lib.hid (Hin2.out.go HT_.out.old)
                          clear hS9 HS HE HT_
                          go_wp2
                          go_roundw
                          case rel => exact ⟨j + 1, by omega, by go_num, HI9.out, S9, rfl, HS9⟩
                          case measure => simp [intOf]; omega
        · have hge2 : ¬ (j : Int) < (nt : Int) := by omega
          obtain rfl : nt = j := by omega
          obtain rfl : S0 = R := by rw [HS0.out, HR.out, Hnt.out, List.take_length]; rfl
          clear hin2 HS0 HR
          go_wp2
          go_ret
          exact ⟨rfl, Hin2.out.old⟩
end
end Go.Proofs.Ytfiielibnnodkaa
