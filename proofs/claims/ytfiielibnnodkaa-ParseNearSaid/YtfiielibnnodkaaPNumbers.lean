/-
  The parser's look ahead: the number of each place.
  Conditions: the tokens are at most 900000.
-/
import Derived.Test.YtfiielibnnodkaaPSmall
import Derived.Test.YtfiielibnnodkaaSMap
namespace Go.Proofs.Ytfiielibnnodkaa
open Go.RowKit
set_option linter.unusedVariables false

theorem Good.drop {ts : List Tok} (h : Good ts) (k : Nat) (hk : k < ts.length) : Good (ts.drop k) := by
  induction k generalizing ts with
  | zero => simpa using h
  | succ k ih =>
    match ts, h with
    | [e], h => simp at hk
    | t :: u :: ts, h =>
      rw [List.drop_succ_cons]
      exact ih h.2.2.2 (by simpa using hk)
theorem hd_drop {ts : List Tok} {k : Nat} {t : Tok} (h : ts[k]? = some t) : hd (ts.drop k) = t := by
  rw [drop_at h]; rfl
theorem numsG_step {ns : List (List UInt8)} {ts : List Tok} {k : Nat} {t : Tok} (h : ts[k]? = some t) :
    numsG ns (ts.drop k) = numsG (if t.text = wPlace ∧ (hd (ts.drop (k + 1))).kind = 1 ∧ (hd (ts.drop (k + 1))).text ∉ ns then ns ++ [(hd (ts.drop (k + 1))).text] else ns) (ts.drop (k + 1)) := by
  rw [drop_at h]; rfl
theorem TokAt.at_ {w : World} {ts : List Tok} {a : Option Addr} {n cap : Nat} (h : TokAt w (.slice a n cap) ts) {i : Nat} {t : Tok} (hi : ts[i]? = some t) :
    ∃ b off, a = some ⟨b, off, none⟩ ∧ b < w.heap.size ∧ w.cell? ⟨b, off + i * 4, none⟩ = some (.int .u8 (t.kind : Int)) ∧ w.cell? ⟨b, off + i * 4 + 1, none⟩ = some (.string (bs t.text)) ∧ w.cell? ⟨b, off + i * 4 + 2, none⟩ = some (.int .i64 (t.num : Int)) ∧ w.cell? ⟨b, off + i * 4 + 3, none⟩ = some (.int .i64 (t.at_ : Int)) := by
  obtain ⟨b, off, e, hb, hc⟩ := RowAt.elem tokL_len h hi
  exact ⟨b, off, e, hb, hc 0 _ rfl, hc 1 _ rfl, hc 2 _ rfl, hc 3 _ rfl⟩

/-- what numbers has: the map, and nothing else -/
structure InNum (w wr : World) (ns : List (List UInt8)) : Prop where
  map : SMap wr w.heap.size ns
  below : Below w.heap.size w wr

theorem InNum.up {w wr w' : World} {ns : List (List UInt8)} (h : InNum w wr ns) (hb : Below wr.heap.size wr w') : InNum w w' ns :=
  ⟨h.map.same (hb.block _ h.map.lt), h.below.trans (hb.mono h.below.size)⟩

set_option maxRecDepth 100000 in
set_option maxHeartbeats 400000 in
theorem numbers_any {w : World} {ts : List Tok} {a : Option Addr} {n c : Nat} (hn : n = ts.length) (h : TokAt w (.slice a n c) ts) (hg : Good ts) (hl : n ≤ 900000) :
    Calls Try.prog 32 #[.slice a n c] w fun e w' => e = .returned (.map (some w.heap.size)) ∧ InNum w w' (numsG [] ts) := by
  have H := Lib.hid h
  have Hn := Lib.hid hn
  have Hg := Lib.hid hg
  obtain ⟨A, hA⟩ : ∃ A, A = numsG [] ts := ⟨_, rfl⟩
  rw [← hA]
  have HA : Hid (A = numsG [] (ts.drop 0)) := Lib.hid (by rw [hA]; rfl)
  clear h hn hg hA
  have hmm := @run_makeMap Try.prog
  go_enter Try.func32, Try.ntmps32
  go_wp2
  go_loopw [12] (fun i wr => ∃ k : Nat, ∃ ns, k ≤ n ∧ i = .int .i64 k ∧ ns.length ≤ k ∧ InNum w wr ns ∧ Hid (A = numsG ns (ts.drop k))) (fun i _ => n - (intOf i).toNat)
  case atStart => exact ⟨0, [], by omega, rfl, by simp, ⟨SMap.new w, (Below.refl _ _).alloc (Nat.le_refl _) _⟩, HA⟩
  case round =>
    obtain ⟨k, ns, hk, rfl, hns, hin, Hk⟩ := hrel
    by_cases hlt : k < n
    · obtain ⟨t, ht⟩ := at_lt (l := ts) (k := k) (by rw [← Hn.out]; exact hlt)
      have hlti : (k : Int) < (n : Int) := by omega
      have hT := RowAt.below H.out hin.below
      obtain ⟨b, off, e0, hbw, e1, e2, e3, e4⟩ := TokAt.at_ hT ht
      subst e0
      have Hst := Lib.hid (numsG_step (ns := ns) ht)
      have hgk := Hg.out.drop k (by rw [← Hn.out]; exact hlt)
      have Hhk := Lib.hid (hd_drop ht)
      have Hin := Lib.hid (hin.up ((Below.refl _ _).alloc (Nat.le_refl _) (.cells #[.int .u8 (t.kind : Int), .string (bs t.text), .int .i64 (t.num : Int), .int .i64 (t.at_ : Int)] 81)))
      have hq : ((bs t.text).toList == [112, 108, 97, 99, 101]) = decide (t.text = wPlace) := by rw [bs_toList]; unfold wPlace; by_cases h : t.text = [112, 108, 97, 99, 101] <;> simp [h]
      by_cases hp : t.text = wPlace
      · have hk1 : k + 1 < n := by
          have h1 := hgk.tailT (by rw [Hhk.out, hp]; simp [wPlace])
          have h2 := h1.len
          rw [List.tail_drop, List.length_drop, ← Hn.out] at h2
          omega
        obtain ⟨u, hu⟩ := at_lt (l := ts) (k := k + 1) (by rw [← Hn.out]; exact hk1)
        obtain ⟨k1, hk1e⟩ : ∃ k1, k1 = k + 1 := ⟨_, rfl⟩
        have hk1i : (k1 : Int) < (n : Int) := by omega
        have hkw : (k : Int) + 1 = (k1 : Int) := by omega
        have hww : IntKind.i64.wrap ((k : Int) + 1) = (k1 : Int) := by rw [hkw]; simp [IntKind.wrap, IntKind.bits, IntKind.signed]; omega
        have hgk1 := (Hg.out.drop (k + 1) (by rw [← Hn.out]; exact hk1)).small
        have hhu := hd_drop hu
        rw [hhu] at hgk1
        obtain ⟨b', off', e0', _, u1, u2, _, _⟩ := TokAt.at_ hT hu
        rw [← hk1e] at u1 u2
        have Hk1 := Lib.hid hk1e
        clear hk1e
        injection e0' with e0'
        injection e0' with x1 x2 _
        subst x1 x2
        rw [decide_eq_true hp] at hq
        by_cases huk : u.kind = 1
        · have hukb : (((u.kind : Nat) : Int) == 1) = true := by rw [huk]; rfl
          by_cases hmem : u.text ∈ ns
          · have Hr : Hid (A = numsG ns (ts.drop (k + 1))) := Lib.hid (by rw [Hk.out, Hst.out, hhu, if_neg (by simp [hmem])])
            have lk := SMap.look Hin.out.map hgk1 hmem
            clear ht hT hp hu hhu hgk hin huk hmem hgk1 Hst
            go_wp2
            go_roundw
            case rel => exact ⟨k + 1, ns, by omega, by rw [Hk1.out], by omega, Hin.out, Hr⟩
            case measure => simp [intOf]; omega
          · have Hr : Hid (A = numsG (ns ++ [u.text]) (ts.drop (k + 1))) := Lib.hid (by rw [Hk.out, Hst.out, hhu, if_pos ⟨hp, huk, hmem⟩])
            have lk := SMap.miss Hin.out.map hgk1 hmem
            have ln := SMap.len Hin.out.map 3
            obtain ⟨w2, hst, hm2, hgr⟩ := SMap.store Hin.out.map hgk1 hmem (by omega)
            have Hin2 : Hid (InNum w w2 (ns ++ [u.text])) := Lib.hid ⟨hm2, Hin.out.below.trans (((Kept.refl (fun k => k = w.heap.size) _).grown hgr (fun k e => by injection e with e; exact e.symm)).below (fun k e => by omega) Hin.out.below.size)⟩
            clear ht hT hp hu hhu hgk hin huk hmem hgk1 Hst hm2 hgr
            go_wp2
            go_roundw
            case rel => exact ⟨k + 1, ns ++ [u.text], by omega, by rw [Hk1.out], by simp; omega, Hin2.out, Hr⟩
            case measure => simp [intOf]; omega
        · have hukb : (((u.kind : Nat) : Int) == 1) = false := by simp; omega
          have Hr : Hid (A = numsG ns (ts.drop (k + 1))) := Lib.hid (by rw [Hk.out, Hst.out, hhu, if_neg (by simp [huk])])
          clear ht hT hp hu hhu hgk hin huk hgk1 Hst
          go_wp2
          go_roundw
          case rel => exact ⟨k + 1, ns, by omega, by rw [Hk1.out], by omega, Hin.out, Hr⟩
          case measure => simp [intOf]; omega
      · rw [decide_eq_false hp] at hq
        have Hr : Hid (A = numsG ns (ts.drop (k + 1))) := Lib.hid (by rw [Hk.out, Hst.out, if_neg (by simp [hp])])
        clear ht hT hp hgk hin Hst
        go_wp2
        go_roundw
        case rel => exact ⟨k + 1, ns, by omega, by go_num, by omega, Hin.out, Hr⟩
        case measure => simp [intOf]; omega
    · have hge : ¬ (k : Int) < (n : Int) := by omega
      have Hr : Hid (A = ns) := Lib.hid (by rw [Hk.out, List.drop_eq_nil_of_le (by rw [← Hn.out]; omega)]; rfl)
      have Hin := Lib.hid hin
      clear hin
      go_wp2
      go_ret
      exact ⟨rfl, by rw [Hr.out]; exact Hin.out⟩
end Go.Proofs.Ytfiielibnnodkaa
