/-
  What Tokens of lex comes to: all tokens of any bytes, or the first fault, and where.
  Conditions: texts of up to 1000000 bytes.
-/
import Derived.Test.YtfiielibnnodkaaTokRow
namespace Go.Proofs.Ytfiielibnnodkaa
open Go.RowKit
set_option linter.unusedVariables false

/-- what Tokens answers -/
def TokensOut (B : Nat) (w' : World) (l : List UInt8) (v f : Value) : Prop :=
  (∃ ts, lexL 0 l = .ok ts ∧ w'.ownsRow B 81 4 v ts.length (toksL ts) ∧ f = faultV 0 0 (0, 0)) ∨
  (∃ e p : Nat, lexL 0 l = .error (e, p) ∧ p ≤ l.length ∧ v = .slice none 0 0 ∧ f = faultV e p (placeL (l.take p)))

theorem read_err {p : Nat} {c : UInt8} {r : List UInt8} {e : Nat} (h : readL p c r = .error e) : e = 3 ∨ e = 6 := by
  unfold readL at h
  split at h
  · cases h
  split at h
  · split at h
    · injection h with h; omega
    · cases h
  split at h
  · cases h
  split at h
  · cases h
  · injection h with h; omega

/-- what the loop has when the byte at k comes -/
structure InTok (w wr : World) (A : Option Addr) (n : Nat) (l : List UInt8) (k : Nat) (ts : List Tok) (v : Value) : Prop where
  row : wr.ownsRow (w.heap.size + 1) 81 4 v ts.length (toksL ts)
  bytes : BytesAt wr A n l
  fault : wr.heap[w.heap.size]? = some (.cells #[.int .i64 0, .int .i64 0, .int .i64 0, .int .i64 0] 49)
  below : Below w.heap.size w wr
  same : lexL 0 l = pre ts (lexL k (l.drop k))
  bare : ∀ x, l[k]? = some x → bareB x = true
  few : ts.length ≤ k

section
variable {w wr w' : World} {A : Option Addr} {n k : Nat} {l : List UInt8} {ts : List Tok} {v : Value}

theorem InTok.big (h : InTok w wr A n l k ts v) : w.heap.size + 1 ≤ wr.heap.size := (Array.getElem?_eq_some_iff.1 h.fault).1

/-- a token more, behind calls that make memory -/
theorem InTok.next {t : Tok} {W2 w3 : World} {v3 : Value} {k2 : Nat} (h : InTok w wr A n l k ts v) (hb : Below wr.heap.size wr W2) (ho : w3.ownsRow (w.heap.size + 1) 81 4 v3 (ts ++ [t]).length (toksL (ts ++ [t])))
    (hk : Kept (fun j => v.ownBlock = some j) W2 w3) (hsame : lexL 0 l = pre (ts ++ [t]) (lexL k2 (l.drop k2))) (hbare : ∀ x, l[k2]? = some x → bareB x = true) (hk2 : k < k2) (hB : BytesAt w A n l) : InTok w w3 A n l k2 (ts ++ [t]) v3 := by
  have hbig := h.big
  have hown : ∀ j, v.ownBlock = some j → w.heap.size + 1 ≤ j := fun j hj => (h.row.lt j hj).1
  have hkb : Below (w.heap.size + 1) W2 w3 := hk.below hown (by have := hb.size; omega)
  have hb2 : Below (w.heap.size + 1) wr w3 := (hb.mono hbig).trans hkb
  have hbw : Below w.heap.size w w3 := h.below.trans (hb2.mono (by omega))
  exact ⟨ho, hB.below hbw, (hb2.block _ (by omega)).trans h.fault, hbw, hsame, hbare, by have := h.few; simp; omega⟩

theorem own_moves {T : TypeId} {B m : Nat} {xs : List Value} (h : w.ownsRow B T 4 v m xs) (hb : Below w.heap.size w w') : w'.ownsRow B T 4 v m xs :=
  ownS (S := fun _ => False) h (Kept.of_below hb) (fun _ _ e => e)

set_option maxRecDepth 100000 in
set_option maxHeartbeats 4000000 in
theorem tokens_any (h : BytesAt w A n l) (c : Nat) (hc : n ≤ c) (hn : n ≤ 1000000) :
    Calls Try.prog 31 #[.slice A n c] w fun e w' => ∃ v f, e = .returned (.tuple #[v, f]) ∧ TokensOut (w.heap.size + 1) w' l v f ∧ Below w.heap.size w w' := by
  have H := Lib.hid h
  have hb0 : Below w.heap.size w (w.alloc (.cells #[.int .i64 0, .int .i64 0, .int .i64 0, .int .i64 0] 49)) := (Below.refl _ w).alloc (Nat.le_refl _) _
  have H0 := Lib.hid (h.below hb0)
  have Hb0 := Lib.hid hb0
  have hsk0 := skip_any H0.out c hc hn 0 (by omega)
  clear h hb0
  go_enter Try.func31, Try.ntmps31
  go_wp2_with (go_at_call 51; refine hsk0.mono ?_; rintro e w' ⟨k0, hk0, rfl, rfl⟩; have Hk0 := Lib.hid hk0; clear hk0)
  go_loopw [4, 5] (fun s t wr => ∃ k : Nat, ∃ ts, k ≤ n ∧ t = .int .i64 k ∧ InTok w wr A n l k ts s) (fun _ t _ => n - (intOf t).toNat)
  case atStart => exact ⟨k0, [], by have := Hk0.out.le; rw [H.out.len] at this; exact this, rfl, ⟨World.ownsRow_nil _ _ _ _, H0.out, heap_alloc_new w _, Hb0.out, by rw [pre_nil, ← Hk0.out.same]; rfl, Hk0.out.bare, by simp⟩⟩
  case round =>
    obtain ⟨k, ts, hkn, rfl, hI⟩ := hrel
    have HI := Lib.hid hI
    clear hI
    by_cases hlt : k < n
    · have hlti : (k : Int) < (n : Int) := by omega
      obtain ⟨b, off, x, hA, hb, hx, hd, hce⟩ := HI.out.bytes.at_ hlt
      subst hA
      have hread := read_any HI.out.bytes c hc hn k hlt x (l.drop (k + 1)) hd
      have hbare := HI.out.bare x hx
      have hbl : isBlank x = false := by
        unfold bareB at hbare
        simp at hbare
        exact hbare.1
      have hha : ¬ x.toNat = 35 := by
        unfold bareB at hbare
        simp at hbare
        exact hbare.2
      have hlr := lex_read k x (l.drop (k + 1)) hbl hha
      cases hR : readL k x (l.drop (k + 1)) with
      | error er =>
        rw [hR] at hread hlr
        have HE : Hid (lexL 0 l = .error (er, k)) := Lib.hid (by rw [HI.out.same, hd, hlr]; rfl)
        have Her := Lib.hid (read_err hR)
        have hread2 : Calls Try.prog 52 #[.slice (some ⟨b, off, none⟩) n c, .int .i64 k] wr fun e w' => e = .returned (.tuple #[.agg #[.int .u8 0, .string { data := #[] }, .int .i64 0, .int .i64 0], .int .i64 (er : Int)]) ∧ Below wr.heap.size wr w' := hread
        have hne : ((er : Int) != 0) = true := by
          rcases Her.out with e | e <;> rw [e] <;> rfl
        clear hread hlr hbl hha hbare hx hd hce hR
        go_wp2_with fail
        refine hread2.mono ?_
        rintro e w1 ⟨rfl, hb1⟩
        have hb2 := hb1.alloc hb1.size (.cells #[.int .u8 0, .string { data := #[] }, .int .i64 0, .int .i64 0] 81)
        have hft := fault_any (HI.out.bytes.below hb2) c hc hn (er : Int) (k : Int) (by omega) (by omega)
        have Hb2 := Lib.hid hb2
        clear hb1 hb2
        have e3 : clampI (k : Int) n = k := by unfold clampI; omega
        rw [e3] at hft
        obtain ⟨⟨q1, q2⟩, hq⟩ : ∃ q, q = placeL (l.take k) := ⟨_, rfl⟩
        rw [← hq] at hft
        have Hq := Lib.hid hq
        clear hq e3
        have hft2 : Calls Try.prog 34 #[.slice (some ⟨b, off, none⟩) n c, .int .i64 (er : Int), .int .i64 (k : Int)] (w1.alloc (.cells #[.int .u8 0, .string { data := #[] }, .int .i64 0, .int .i64 0] 81)) fun e w' => e = .returned (.agg #[.int .i64 (er : Int), .int .i64 (k : Int), .int .i64 (q1 : Int), .int .i64 (q2 : Int)]) ∧ Below (w1.alloc (.cells #[.int .u8 0, .string { data := #[] }, .int .i64 0, .int .i64 0] 81)).heap.size (w1.alloc (.cells #[.int .u8 0, .string { data := #[] }, .int .i64 0, .int .i64 0] 81)) w' := hft
        clear hft
        go_wp2_with (go_at_call 34; refine hft2.mono ?_; rintro e w2 ⟨rfl, hb3⟩; have hb4 := Hb2.out.trans (hb3.mono Hb2.out.size); obtain ⟨⟨c0, c1, c2, c3⟩, ⟨f0, f1, f2, f3⟩, hlt5⟩ := new4 HI.out.fault hb4; have Hb4 := Lib.hid hb4; clear hb3 hb4)
        refine bodyPost_ret (v := .tuple #[.slice none 0 0, .agg #[.int .i64 (er : Int), .int .i64 (k : Int), .int .i64 (q1 : Int), .int .i64 (q2 : Int)]]) (by simp [results, Try.results31, go_sem, c0, c1, c2, c3]) rfl ⟨_, _, rfl, .inr ⟨er, k, HE.out, by rw [H.out.len]; exact hkn, rfl, by rw [← Hq.out]; rfl⟩, ?_⟩
        have hbz := HI.out.below.trans (Hb4.out.mono (by have := HI.out.big; omega))
        exact ((((hbz.setCell (by simp) _).setCell (by simp) _).setCell (by simp) _).setCell (by simp) _)
      | ok t =>
        rw [hR] at hread hlr
        obtain ⟨ht1, ht2, ht3⟩ := read_len hR
        have hxl : (x :: l.drop (k + 1)).length = n - k := by rw [← hd, List.length_drop, HI.out.bytes.len]
        rw [hxl] at ht2
        have HE : Hid (lexL 0 l = pre (ts ++ [t]) (lexL (k + t.text.length) (l.drop (k + t.text.length)))) := Lib.hid (by
          rw [HI.out.same, hd, hlr]
          show pre ts (ahead t _) = _
          rw [pre_ahead, ← hd, List.drop_drop])
        obtain ⟨sv, hsv⟩ : ∃ sv, sv = bs t.text := ⟨_, rfl⟩
        have hsz : sv.size = t.text.length := by rw [hsv, bs_size]
        rw [← hsz] at ht1 ht2 HE
        have hread2 : Calls Try.prog 52 #[.slice (some ⟨b, off, none⟩) n c, .int .i64 k] wr fun e w' => e = .returned (.tuple #[.agg #[.int .u8 (t.kind : Int), .string sv, .int .i64 (t.num : Int), .int .i64 (t.at_ : Int)], .int .i64 0]) ∧ Below wr.heap.size wr w' := by rw [hsv]; exact hread
        have Hsv := Lib.hid hsv
        have hfew := HI.out.few
        clear hread hlr hbl hha hbare hx hd hce hR hxl hsz hsv ht3
        go_wp2_with fail
        refine hread2.mono ?_
        rintro e w1 ⟨rfl, hb1⟩
        have hb2 := hb1.alloc hb1.size (.cells #[.int .u8 (t.kind : Int), .string sv, .int .i64 (t.num : Int), .int .i64 (t.at_ : Int)] 81)
        obtain ⟨v3, w3, hr3, ho3, hk3⟩ := run_push_tok 71 t (own_moves HI.out.row hb2) (by omega) (by have := HI.out.big; have := hb2.size; omega)
        rw [← Hsv.out, show (w1.alloc (.cells #[.int .u8 (t.kind : Int), .string sv, .int .i64 (t.num : Int), .int .i64 (t.at_ : Int)] 81)).heap.size = w1.heap.size + 1 by simp] at hr3
        obtain ⟨av, cv, hv⟩ := own_form HI.out.row
        subst hv
        have hnb : ∀ j, (Value.slice av ts.length cv).ownBlock = some j → j < wr.heap.size := fun j hj => (HI.out.row.lt j hj).2
        have c1 : w3.cell? ⟨w1.heap.size, 1, none⟩ = some (.string sv) := hk3.cell (by simp) (fun e => by have := hnb _ e; have := hb1.size; omega) (by rw [cell_marked]; rfl)
        have HN := Lib.hid (fun (k2 : Nat) h1 h2 h3 => HI.out.next (k2 := k2) hb2 ho3 hk3 h1 h2 h3 H.out)
        have hBw : BytesAt w3 (some ⟨b, off, none⟩) n l := by
          have hown : ∀ j, (Value.slice av ts.length cv).ownBlock = some j → w.heap.size + 1 ≤ j := fun j hj => (HI.out.row.lt j hj).1
          have hbig := HI.out.big
          have hbw : Below w.heap.size w w3 := HI.out.below.trans ((hb2.mono (by omega)).trans ((hk3.below hown (by have := hb2.size; omega)).mono (by omega)))
          exact H.out.below hbw
        have hsk := skip_any hBw c hc hn (k + sv.size) (by omega)
        rw [show ((k + sv.size : Nat) : Int) = (k : Int) + (sv.size : Int) by omega] at hsk
        have hsz : sv.size ≤ n := by omega
        clear hb1 hb2 ho3 hk3 hnb hBw
        go_wp2_with (first | (at_builtin; refine wpList_append_eq rfl (.tmp 26) (.tmp 28) 71 rfl rfl rfl hr3 ?_) | (go_at_call 51; refine hsk.mono ?_; rintro e w4 ⟨k2, hk2, rfl, rfl⟩; have h4 := hk2.ge; have h5 := hk2.le; have Hk2 := Lib.hid hk2; clear hk2))
        go_roundw
        case rel => exact ⟨k2, ts ++ [t], by rw [H.out.len] at h5; exact h5, rfl, HN.out k2 (by rw [HE.out, Hk2.out.same]) Hk2.out.bare (by omega)⟩
        case measure => simp [intOf]; rw [H.out.len] at h5; omega
    · obtain rfl : n = k := by omega
      have hge : ¬ (n : Int) < (n : Int) := by omega
      have hdn : l.drop n = [] := List.drop_of_length_le (by rw [H.out.len]; omega)
      have HE : Hid (lexL 0 l = .ok (ts ++ [⟨0, [], 0, n⟩])) := Lib.hid (by rw [HI.out.same, hdn, lex_nil]; rfl)
      have hfew := HI.out.few
      obtain ⟨av, cv, hv⟩ := own_form HI.out.row
      subst hv
      obtain ⟨v3, w3, hr3, ho3, hk3⟩ := run_push_tok 71 ⟨0, [], 0, n⟩ HI.out.row (by omega) HI.out.big
      have hr4 : (Builtin.append_ #[71, 71] 71 #[.slice av ts.length cv, .slice (some ⟨wr.heap.size, 0, none⟩) 1 1]).run Try.prog (wr.alloc (.cells #[.int .u8 0, .string { data := #[] }, .int .i64 0, .int .i64 (n : Int)] 81)) = .ok v3 w3 := hr3
      have hown : ∀ j, (Value.slice av ts.length cv).ownBlock = some j → w.heap.size + 1 ≤ j := fun j hj => (HI.out.row.lt j hj).1
      have hkb : Below (w.heap.size + 1) wr w3 := hk3.below hown HI.out.big
      have hlt0 : w.heap.size < wr.heap.size := by have := HI.out.big; omega
      have hf2 : w3.heap[w.heap.size]? = some (.cells #[.int .i64 0, .int .i64 0, .int .i64 0, .int .i64 0] 49) := (hkb.block _ (by omega)).trans HI.out.fault
      obtain ⟨⟨c0, c1, c2, c3⟩, ⟨f0, f1, f2, f3⟩, hlt5⟩ := new4 hf2 (Below.refl _ _)
      have Hbw := Lib.hid (HI.out.below.trans (hkb.mono (by omega)))
      have Ho3 := Lib.hid ho3
      clear hr3 ho3 hk3 hown hkb hf2 hdn
      go_wp2_with (at_builtin; refine wpList_append_eq rfl (.tmp 37) (.tmp 40) 71 rfl rfl rfl hr4 ?_)
      refine bodyPost_ret (v := .tuple #[v3, .agg #[.int .i64 0, .int .i64 0, .int .i64 0, .int .i64 0]]) (by simp [results, Try.results31, go_sem, c0, c1, c2, c3]) rfl ⟨v3, _, rfl, .inl ⟨_, HE.out, ?_, rfl⟩, ?_⟩
      · have e1 := (((Kept.refl (fun j => j = w.heap.size) w3).setCell (p := ⟨w.heap.size, 0, none⟩) rfl (.int .i64 0)).setCell (p := ⟨w.heap.size, 1, none⟩) rfl (.int .i64 0)).setCell (p := ⟨w.heap.size, 2, none⟩) rfl (.int .i64 0) |>.setCell (p := ⟨w.heap.size, 3, none⟩) rfl (.int .i64 0)
        exact ownS Ho3.out e1 (fun r hr e => by have := (Ho3.out.lt r hr).1; omega)
      · exact ((((Hbw.out.setCell (by simp) _).setCell (by simp) _).setCell (by simp) _).setCell (by simp) _)

end

end Go.Proofs.Ytfiielibnnodkaa
