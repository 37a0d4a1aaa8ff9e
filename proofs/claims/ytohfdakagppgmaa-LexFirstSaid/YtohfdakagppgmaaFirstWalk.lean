/-
  The walk of the law LexFirst: of several faults the first one is told, whatever stands behind it.
  Conditions: none beyond the theorem's own.
-/
import Derived.Test.YtohfdakagppgmaaAppendSrc
import Derived.Test.YtohfdakagppgmaaLexAwake
import Derived.Test.YtohfdakagppgmaaBytesIn
namespace Go.Proofs.Ytohfdakagppgmaa
open Go.RowKit
set_option linter.unusedVariables false

theorem OwnB.form {B : Nat} {w : World} {v : Value} {l : List UInt8} (h : OwnB B w v l) : ∃ a c, v = .slice a l.length c := own_form h
theorem OwnB.nil (B : Nat) (w : World) : OwnB B w (.slice none 0 0) [] := World.ownsRow_nil w B _ 1
theorem OwnB.lt {B : Nat} {w : World} {v : Value} {l : List UInt8} (h : OwnB B w v l) : ∀ j, v.ownBlock = some j → B ≤ j ∧ j < w.heap.size := World.ownsRow.lt h
theorem OwnB.moves {B : Nat} {w w' : World} {v : Value} {l : List UInt8} (h : OwnB B w v l) (hb : Below w.heap.size w w') : OwnB B w' v l :=
  ownS (S := fun _ => False) h (Kept.of_below hb) (fun _ _ e => e)

theorem letters_snoc (zs : List Nat) (z : Nat) : letters (zs ++ [z]) = letters zs ++ [UInt8.ofNat (97 + z % 26), 32] := by simp [letters]

theorem letters_take (l : List UInt8) (i : Nat) (x : UInt8) (h : l[i]? = some x) : letters ((l.take (i + 1)).map UInt8.toNat) = letters ((l.take i).map UInt8.toNat) ++ [UInt8.ofNat (97 + x.toNat % 26), 32] := by
  rw [List.take_add_one, h, List.map_append]
  exact letters_snoc _ _

theorem letters_flat (zs : List Nat) : ∀ c ∈ letters zs, c.toNat ≠ 10 := by
  intro c hc
  obtain ⟨z, _, hc⟩ := List.mem_flatMap.1 hc
  simp only [List.mem_cons, List.not_mem_nil, or_false] at hc
  rcases hc with e | e
  · have h : (UInt8.ofNat (97 + z % 26)).toNat = 97 + z % 26 := by simp; omega
    rw [e, h]; omega
  · rw [e]; decide

/-- what stands there that is wrong -/
def badL (kind : Bool) : List UInt8 := if kind then [57, 57, 57, 57, 57, 57, 57, 57, 57, 57, 57, 57, 57, 57, 57, 57, 57, 57, 57, 57] else [63]
/-- and which error it is -/
def badE (kind : Bool) : Nat := if kind then 3 else 6

theorem bad_lex (kind : Bool) (more : List UInt8) (p : Nat) : lexL p (badL kind ++ more) = .error (badE kind, p) := by
  cases kind with
  | true => exact lex_over p 57 [57, 57, 57, 57, 57, 57, 57, 57, 57, 57, 57, 57, 57, 57, 57, 57, 57, 57, 57] more (by decide) (by decide) (by decide)
  | false => exact lex_query p more

theorem first_place (zs : List Nat) (rest : List UInt8) : placeL ((letters zs ++ rest).take (2 * zs.length)) = (1, 2 * zs.length + 1) := by
  rw [← letters_len zs, List.take_left' rfl, placeL_flat _ (letters_flat zs)]

theorem IsRow.none_zero {k : IntKind} {w : World} {a : Option Addr} {len cap : Nat} {zs : List Int} (h : IsRow k w a len cap zs) : a = none → len = 0 := by
  rcases h with ⟨_, h, _⟩ | ⟨x, h, _⟩
  · exact fun _ => h
  · intro e
    rw [h] at e
    cases e

section
variable {w : World} {A A2 : Option Addr} {n n2 : Nat} {l l2 : List UInt8}

set_option maxRecDepth 100000 in
set_option maxHeartbeats 4000000 in
theorem first_law (h : BytesAt w A n l) (c : Nat) (hc : n ≤ c) (hmax : n ≤ 9223372036854775807) (kind : Bool) (h2 : BytesAt w A2 n2 l2) (c2 : Nat) (hc2 : n2 ≤ c2) (hmax2 : n2 ≤ 9223372036854775807) (hA2 : A2 = none → n2 = 0) :
    Calls Try.prog 8 #[.slice A n c, .bool kind, .slice A2 n2 c2] w fun e w' => e = .returned (.bool true) ∧ Below w.heap.size w w' := by
  have H := Lib.hid h
  have H2 := Lib.hid h2
  have HA2 := Lib.hid hA2
  clear h h2 hA2
  by_cases hbig : 60 < n
  · have hbi : (60 : Int) < (n : Int) := by omega
    go_enter Try.func8, Try.ntmps8
    go_wp2_with fail
    refine (awake_any _).mono ?_
    rintro e w1 ⟨rfl, hb1⟩
    have Hb1 := Lib.hid hb1
    clear hb1
    go_wp2_with fail
    refine (awake_any _).mono ?_
    rintro e w2 ⟨rfl, hb2⟩
    have Hb2 := Lib.hid (Hb1.out.trans (hb2.mono Hb1.out.size))
    clear hb2
    go_wp2
    go_ret
    exact ⟨rfl, Hb2.out⟩
  have hbi : ¬ (60 : Int) < (n : Int) := by omega
  have hbd : decide ((60 : Int) < (n : Int)) = false := by simpa using hbi
  have hbd2 : decide (60 < n) = false := by simpa using hbig
  by_cases hbig2 : 60 < n2
  · have hbi2 : (60 : Int) < (n2 : Int) := by omega
    go_enter Try.func8, Try.ntmps8
    go_wp2_with fail
    refine (awake_any _).mono ?_
    rintro e w1 ⟨rfl, hb1⟩
    have Hb1 := Lib.hid hb1
    clear hb1
    go_wp2_with fail
    refine (awake_any _).mono ?_
    rintro e w2 ⟨rfl, hb2⟩
    have Hb2 := Lib.hid (Hb1.out.trans (hb2.mono Hb1.out.size))
    clear hb2
    go_wp2
    go_ret
    exact ⟨rfl, Hb2.out⟩
  have hbi2 : ¬ (60 : Int) < (n2 : Int) := by omega
  have hbd3 : decide ((60 : Int) < (n2 : Int)) = false := by simpa using hbi2
  have hbd4 : decide (60 < n2) = false := by simpa using hbig2
  go_enter Try.func8, Try.ntmps8
  go_wp2_with fail
  refine (awake_any _).mono ?_
  rintro e w1 ⟨rfl, hb1⟩
  have Hb1 := Lib.hid hb1
  clear hb1
  go_wp2
  go_loopw [7, 8] (fun s t wr => ∃ i : Nat, i ≤ n ∧ t = .int .i64 i ∧ OwnB w.heap.size wr s (letters ((l.take i).map UInt8.toNat)) ∧ Below w.heap.size w wr) (fun _ t _ => n - (intOf t).toNat)
  case atStart => exact ⟨0, by omega, rfl, OwnB.nil _ _, Hb1.out⟩
  case round =>
    obtain ⟨i, hi, rfl, hO, hB⟩ := hrel
    have HO := Lib.hid hO
    have HB := Lib.hid hB
    clear hO hB
    by_cases hlt : i < n
    · obtain ⟨b, off, x, hA, hb, hx, hd, hce⟩ := (H.out.below HB.out).at_ hlt
      subst hA
      have hlti : (i : Int) < (n : Int) := by omega
      have hls := letters_take l i x hx
      have Hls := Lib.hid hls
      obtain ⟨z, hz⟩ : ∃ z, z = x.toNat := ⟨_, rfl⟩
      have hz255 : z ≤ 255 := by have := x.toNat_lt; omega
      have hzz : zi x = (z : Int) := by rw [hz]; rfl
      rw [hzz] at hce
      have Hz := Lib.hid hz
      obtain ⟨q, hq⟩ : ∃ q, q = letters ((l.take i).map UInt8.toNat) := ⟨_, rfl⟩
      have hql : q.length = 2 * i := by
        have hil : i ≤ l.length := by rw [H.out.len]; exact hi
        rw [hq, letters_len, List.length_map, List.length_take, Nat.min_eq_left hil]
      have HO2 : OwnB w.heap.size wr u7 q := by rw [hq]; exact HO.out
      obtain ⟨y, hy⟩ : ∃ y : UInt8, y = UInt8.ofNat (97 + z % 26) := ⟨_, rfl⟩
      have hyz : zi y = 97 + (z : Int) % 26 := by
        have e : (UInt8.ofNat (97 + z % 26)).toNat = 97 + z % 26 := by simp; omega
        unfold zi
        rw [hy, e]
        omega
      have hk1 := (Below.refl wr.heap.size wr).alloc (Nat.le_refl _) (.cells #[.int .u8 (zi y), .int .u8 32] 5)
      have hsrc := BytesAt.src (w := wr.alloc (.cells #[.int .u8 (zi y), .int .u8 32] 5)) (A := some ⟨wr.heap.size, 0, none⟩) (n := 2) (l := [y, 32]) ⟨rfl, fun _ => ⟨_, _, rfl, by simp, fun i x hx => by
        rw [Nat.zero_add, cell_marked]
        match i, hx with
        | 0, hx => simp at hx; subst hx; rfl
        | 1, hx => simp at hx; subst hx; rfl⟩⟩ 2 (fun e => by cases e)
      obtain ⟨v3, w3, hr3, ho3, hk3⟩ := run_push_bytes 22 22 (HO2.moves hk1) _ [y, 32] hsrc (by simp; omega) (by have := HB.out.size; simp; omega)
      have hown : ∀ j, u7.ownBlock = some j → w.heap.size ≤ j := fun j hj => (HO2.lt j hj).1
      have HBn := Lib.hid (HB.out.trans ((hk1.mono HB.out.size).trans (hk3.below hown (by have := HB.out.size; simp; omega))))
      have HOn : Hid (OwnB w.heap.size w3 v3 (letters ((l.take (i + 1)).map UInt8.toNat))) := Lib.hid (by rw [Hls.out, ← hq, ← Hz.out, ← hy]; exact ho3)
      obtain ⟨av, cv, hv⟩ := HO2.form
      subst hv
      rw [hyz] at hr3
      rw [hql] at hr3 ⊢
      clear hx hd hls hz hzz hq HO2 hy hyz hk1 hsrc ho3 hk3 hown HO
      go_wp2_with (at_builtin; refine wpList_append_eq rfl (.tmp 33) (.tmp 40) 22 rfl rfl rfl hr3 ?_)
      go_roundw
      case rel => exact ⟨i + 1, by omega, by go_num, HOn.out, HBn.out⟩
      case measure => simp [intOf]; omega
    · obtain rfl : n = i := by omega
      have hge : ¬ (n : Int) < (n : Int) := by omega
      obtain ⟨q, hq⟩ : ∃ q, q = letters (l.map UInt8.toNat) := ⟨_, rfl⟩
      have hO2 : OwnB w.heap.size wr u7 q := by
        have := HO.out
        rw [List.take_of_length_le (by rw [H.out.len]; omega), ← hq] at this
        exact this
      obtain ⟨av, cv, hv⟩ := hO2.form
      subst hv
      obtain ⟨m, hm⟩ : ∃ m, m = q.length := ⟨_, rfl⟩
      have Hm : Hid (m = 2 * n) := Lib.hid (by rw [hm, hq, letters_len, List.length_map, H.out.len])
      have hm60 : m ≤ 120 := by rw [Hm.out]; omega
      rw [← hm] at hO2 ⊢
      have HO2 := Lib.hid hO2
      have HM := Lib.hid hm
      have Hq := Lib.hid hq
      clear hq hm hO2 HO
      cases kind
      · obtain ⟨v3, w3, hr3, ho3, hk3⟩ := run_push_bytes 22 9 HO2.out _ _ (src_string wr { data := #[63] }) (by rw [← HM.out]; simp; omega) HB.out.size
        have hown : ∀ j, (Value.slice av m cv).ownBlock = some j → w.heap.size ≤ j := fun j hj => (HO2.out.lt j hj).1
        have hB3 := HB.out.trans (hk3.below hown HB.out.size)
        obtain ⟨v4, w4, hr4, ho4, hk4⟩ := run_push_bytes 22 22 ho3 _ _ ((H2.out.below hB3).src c2 HA2.out) (by rw [List.length_append, ← HM.out, H2.out.len]; simp; omega) hB3.size
        have HB4 := Lib.hid (hB3.trans (hk4.below (fun j hj => (ho3.lt j hj).1) hB3.size))
        have HL : Hid (lexL 0 (q ++ [63] ++ l2) = .error (6, m)) := Lib.hid (by
          have := lex_behind 6 ([63] ++ l2) (fun p => bad_lex false l2 p) (l.map UInt8.toNat) 0
          rw [List.append_assoc, Hq.out, this, Hm.out, List.length_map, H.out.len]
          simp)
        have HP : Hid (placeL ((q ++ [63] ++ l2).take m) = (1, m + 1)) := Lib.hid (by
          have := first_place (l.map UInt8.toNat) ([63] ++ l2)
          rw [List.length_map, H.out.len, ← Hm.out] at this
          rw [List.append_assoc, Hq.out]
          exact this)
        obtain ⟨L, hL⟩ : ∃ L, L = q ++ [63] ++ l2 := ⟨_, rfl⟩
        have hLl : L.length ≤ 1000 := by rw [hL, List.length_append, List.length_append, ← HM.out, H2.out.len]; simp; omega
        have ho5 : OwnB w.heap.size w4 v4 L := by rw [hL]; exact ho4
        rw [← hL] at HL HP
        obtain ⟨a4, c4, hv4⟩ := ho5.form
        subst hv4
        obtain ⟨_, hc4, hB5⟩ := ho5.bytes
        obtain ⟨N4, hN4⟩ : ∃ N4, N4 = L.length := ⟨_, rfl⟩
        rw [← hN4] at hr4 hc4 hB5 hLl
        have htk := tokens_any hB5 c4 hc4 (by omega)
        clear ho3 hk3 hown hB3 ho4 hk4 hL ho5 hN4 hB5
        go_wp2_with (first | (at_builtin; refine wpList_append_eq2 rfl (.tmp 45) (.tmp 46) 22 9 rfl rfl rfl hr3 ?_) | (at_builtin; refine wpList_append_eq2 rfl (.tmp 47) (.tmp 48) 22 22 rfl rfl rfl hr4 ?_))
        refine htk.mono ?_
        rintro e w5 ⟨v5, f5, rfl, hout, hb5⟩
        have HB5 := Lib.hid (HB4.out.trans (hb5.mono HB4.out.size))
        clear hb5
        rcases hout with ⟨ts, h1, _⟩ | ⟨er, pp, h1, _, rfl, rfl⟩
        · rw [HL.out] at h1
          cases h1
        · rw [HL.out] at h1
          injection h1 with h1
          injection h1 with h1 h1b
          subst h1; subst h1b
          rw [HP.out]
          simp only [faultV]
          rw [show (((1, m + 1) : Nat × Nat).2 : Int) = (m : Int) + 1 by simp]
          go_wp2
          go_ret
          exact ⟨rfl, HB5.out.alloc HB5.out.size _⟩
      · obtain ⟨v3, w3, hr3, ho3, hk3⟩ := run_push_bytes 22 9 HO2.out _ _ (src_string wr { data := #[57, 57, 57, 57, 57, 57, 57, 57, 57, 57, 57, 57, 57, 57, 57, 57, 57, 57, 57, 57] }) (by rw [← HM.out]; simp; omega) HB.out.size
        have hown : ∀ j, (Value.slice av m cv).ownBlock = some j → w.heap.size ≤ j := fun j hj => (HO2.out.lt j hj).1
        have hB3 := HB.out.trans (hk3.below hown HB.out.size)
        obtain ⟨v4, w4, hr4, ho4, hk4⟩ := run_push_bytes 22 22 ho3 _ _ ((H2.out.below hB3).src c2 HA2.out) (by rw [List.length_append, ← HM.out, H2.out.len]; simp; omega) hB3.size
        have HB4 := Lib.hid (hB3.trans (hk4.below (fun j hj => (ho3.lt j hj).1) hB3.size))
        have HL : Hid (lexL 0 (q ++ [57, 57, 57, 57, 57, 57, 57, 57, 57, 57, 57, 57, 57, 57, 57, 57, 57, 57, 57, 57] ++ l2) = .error (3, m)) := Lib.hid (by
          have := lex_behind 3 ([57, 57, 57, 57, 57, 57, 57, 57, 57, 57, 57, 57, 57, 57, 57, 57, 57, 57, 57, 57] ++ l2) (fun p => bad_lex true l2 p) (l.map UInt8.toNat) 0
          rw [List.append_assoc, Hq.out, this, Hm.out, List.length_map, H.out.len]
          simp)
        have HP : Hid (placeL ((q ++ [57, 57, 57, 57, 57, 57, 57, 57, 57, 57, 57, 57, 57, 57, 57, 57, 57, 57, 57, 57] ++ l2).take m) = (1, m + 1)) := Lib.hid (by
          have := first_place (l.map UInt8.toNat) ([57, 57, 57, 57, 57, 57, 57, 57, 57, 57, 57, 57, 57, 57, 57, 57, 57, 57, 57, 57] ++ l2)
          rw [List.length_map, H.out.len, ← Hm.out] at this
          rw [List.append_assoc, Hq.out]
          exact this)
        obtain ⟨L, hL⟩ : ∃ L, L = q ++ [57, 57, 57, 57, 57, 57, 57, 57, 57, 57, 57, 57, 57, 57, 57, 57, 57, 57, 57, 57] ++ l2 := ⟨_, rfl⟩
        have hLl : L.length ≤ 1000 := by rw [hL, List.length_append, List.length_append, ← HM.out, H2.out.len]; simp; omega
        have ho5 : OwnB w.heap.size w4 v4 L := by rw [hL]; exact ho4
        rw [← hL] at HL HP
        obtain ⟨a4, c4, hv4⟩ := ho5.form
        subst hv4
        obtain ⟨_, hc4, hB5⟩ := ho5.bytes
        obtain ⟨N4, hN4⟩ : ∃ N4, N4 = L.length := ⟨_, rfl⟩
        rw [← hN4] at hr4 hc4 hB5 hLl
        have htk := tokens_any hB5 c4 hc4 (by omega)
        clear ho3 hk3 hown hB3 ho4 hk4 hL ho5 hN4 hB5
        go_wp2_with (first | (at_builtin; refine wpList_append_eq2 rfl (.tmp 45) (.tmp 46) 22 9 rfl rfl rfl hr3 ?_) | (at_builtin; refine wpList_append_eq2 rfl (.tmp 47) (.tmp 48) 22 22 rfl rfl rfl hr4 ?_))
        refine htk.mono ?_
        rintro e w5 ⟨v5, f5, rfl, hout, hb5⟩
        have HB5 := Lib.hid (HB4.out.trans (hb5.mono HB4.out.size))
        clear hb5
        rcases hout with ⟨ts, h1, _⟩ | ⟨er, pp, h1, _, rfl, rfl⟩
        · rw [HL.out] at h1
          cases h1
        · rw [HL.out] at h1
          injection h1 with h1
          injection h1 with h1 h1b
          subst h1; subst h1b
          rw [HP.out]
          simp only [faultV]
          rw [show (((1, m + 1) : Nat × Nat).2 : Int) = (m : Int) + 1 by simp]
          go_wp2
          go_ret
          exact ⟨rfl, HB5.out.alloc HB5.out.size _⟩

end

end Go.Proofs.Ytohfdakagppgmaa
