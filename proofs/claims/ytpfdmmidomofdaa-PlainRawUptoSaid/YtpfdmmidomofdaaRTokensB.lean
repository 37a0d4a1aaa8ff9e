/-
  What the document's own Tokens comes to: all tokens of any bytes, or the error's number, and where.
  Conditions: texts of up to 2000000 bytes.
-/
import Derived.Test.YtpfdmmidomofdaaRSmall
import Derived.Test.YtpfdmmidomofdaaTokRef
import Derived.WalkMore
import Derived.Deep.CutRange
import Derived.Deep.Heap
namespace Go.Proofs.Ytpfdmmidomofdaa
open Go.RowKit
set_option linter.unusedVariables false

/-- what the document's Tokens answers -/
def RTokensOut (B : Nat) (w' : World) (l : List UInt8) (v e p : Value) : Prop :=
  (∃ ts, lexL 0 l = .ok ts ∧ w'.ownsRow B 118 4 v ts.length (toksL ts) ∧ e = .int .i64 0 ∧ p = .int .i64 0) ∨
  (∃ er k : Nat, lexL 0 l = .error (er, k) ∧ (er = 3 ∨ er = 6) ∧ k ≤ l.length ∧ v = .slice none 0 0 ∧ e = .int .i64 (er : Int) ∧ p = .int .i64 (k : Int))

/-- what the loop has when the byte at k comes -/
structure InR (w wr : World) (A : Option Addr) (n : Nat) (l : List UInt8) (k : Nat) (ts : List Tok) (v : Value) : Prop where
  row : wr.ownsRow w.heap.size 118 4 v ts.length (toksL ts)
  bytes : BytesAt wr A n l
  below : Below w.heap.size w wr
  same : lexL 0 l = pre ts (lexL k (l.drop k))
  few : ts.length ≤ k

/-- the token that is being made, in the block behind wr's -/
structure BoxT (wr W : World) (kd v k : Nat) : Prop where
  blk : W.heap[wr.heap.size]? = some (.cells #[.int .u8 (kd : Int), .string { data := #[] }, .int .i64 (v : Int), .int .i64 (k : Int)] 118)
  below : Below wr.heap.size wr W

theorem box_setCell {w : World} {b i : Nat} {C : Array Value} {u : Value} {t : TypeId} (h : w.heap[b]? = some (.cells C t (0, 0))) : (w.setCell ⟨b, i, none⟩ u).heap[b]? = some (.cells (C.setIfInBounds i u) t (0, 0)) := by
  have hlt : b < w.heap.size := (Array.getElem?_eq_some_iff.1 h).1
  have h' : w.heap[b] = .cells C t (0, 0) := by simpa [Array.getElem?_eq_getElem hlt] using h
  show (w.heap.modify b _)[b]? = _
  rw [Array.getElem?_eq_getElem (by simpa using hlt), Array.getElem_modify_self, h']
  rfl

theorem BoxT.num {wr W : World} {kd v k : Nat} (h : BoxT wr W kd v k) (v' : Nat) : BoxT wr (W.setCell ⟨wr.heap.size, 2, none⟩ (.int .i64 (v' : Int))) kd v' k :=
  ⟨box_setCell h.blk, h.below.setCell (Nat.le_refl _) _⟩
theorem BoxT.kind {wr W : World} {kd v k : Nat} (h : BoxT wr W kd v k) (kd' : Nat) : BoxT wr (W.setCell ⟨wr.heap.size, 0, none⟩ (.int .u8 (kd' : Int))) kd' v k :=
  ⟨box_setCell h.blk, h.below.setCell (Nat.le_refl _) _⟩
theorem BoxT.drew {wr W : World} {kd v k : Nat} (h : BoxT wr W kd v k) : BoxT wr W.drew kd v k := ⟨h.blk, below_drew h.below⟩

/-- the signs of one byte -/
def signsL : List Nat := [59, 58, 44, 42, 33, 126, 64, 61]

/-- the kind that the first i signs give to a byte -/
def kindAt (x : UInt8) (i : Nat) : Nat := if (signsL.take i).contains x.toNat then 3 else 0

theorem kindAt_full (x : UInt8) : kindAt x 8 = if isSign x then 3 else 0 := rfl

theorem kindAt_succ (x : UInt8) (i s : Nat) (h : signsL[i]? = some s) : kindAt x (i + 1) = if x.toNat = s then 3 else kindAt x i := by
  unfold kindAt
  rw [List.take_add_one, h]
  by_cases e : x.toNat = s
  · simp [e]
  · simp [e]

theorem sign_index (i s : Nat) (h : signsL[i]? = some s) (w : World) : Sem.run Try.prog (Instr.index 9 (.string { data := #[59, 58, 44, 42, 33, 126, 64, 61] }) (.int .i64 (i : Int))) w = .ok (.int .u8 (s : Int)) w := by
  match i, h with
  | 0, h => simp [signsL] at h; subst h; simp [Instr.index, go_sem]; rfl
  | 1, h => simp [signsL] at h; subst h; simp [Instr.index, go_sem]; rfl
  | 2, h => simp [signsL] at h; subst h; simp [Instr.index, go_sem]; rfl
  | 3, h => simp [signsL] at h; subst h; simp [Instr.index, go_sem]; rfl
  | 4, h => simp [signsL] at h; subst h; simp [Instr.index, go_sem]; rfl
  | 5, h => simp [signsL] at h; subst h; simp [Instr.index, go_sem]; rfl
  | 6, h => simp [signsL] at h; subst h; simp [Instr.index, go_sem]; rfl
  | 7, h => simp [signsL] at h; subst h; simp [Instr.index, go_sem]; rfl
  | n + 8, h => simp [signsL] at h

/-- where a scan from k + 1 on stops -/
def Stops (P : UInt8 → Bool) (l : List UInt8) (k m : Nat) : Prop := (l.drop (k + 1)).takeWhile P = (l.drop (k + 1)).take (m - (k + 1)) ∧ (l.drop (k + 1)).dropWhile P = l.drop m ∧ ((l.drop (k + 1)).takeWhile P).length = m - (k + 1)

theorem scan_stop {P : UInt8 → Bool} (l : List UInt8) (k m : Nat) (hkm : k < m) (hm : m ≤ l.length) (hall : ∀ i (hi : i < l.length), k + 1 ≤ i → i < m → P l[i] = true) (hs : ∀ hi : m < l.length, P l[m] = false) : Stops P l k m := by
  obtain ⟨h1, h2⟩ := take_len (P := P) (l.drop (k + 1)) (m - (k + 1)) (by rw [List.length_drop]; omega) (fun i hi h => by
    rw [List.getElem_drop]
    exact hall _ _ (by omega) (by omega)) (fun hk => by
    rw [List.getElem_drop]
    have e : k + 1 + (m - (k + 1)) = m := by omega
    simp only [e]
    rw [List.length_drop] at hk
    exact hs (by omega))
  refine ⟨h1, ?_, ?_⟩
  · rw [h2, List.drop_drop]; congr 1; omega
  · rw [h1, List.length_take, List.length_drop]; omega

section
variable {w wr w' : World} {A : Option Addr} {n k m : Nat} {l : List UInt8} {ts : List Tok} {v : Value} {x : UInt8}

theorem cut_cons (hd : l.drop k = x :: l.drop (k + 1)) (hkm : k < m) : (l.drop k).take (m - k) = x :: (l.drop (k + 1)).take (m - (k + 1)) := by
  rw [hd, show m - k = (m - (k + 1)) + 1 by omega, List.take_succ_cons]

theorem word_stop (hs : lexL 0 l = pre ts (lexL k (l.drop k))) (hd : l.drop k = x :: l.drop (k + 1)) (hx : isSmall x = true) (hkm : k < m) (h : Stops isWordy l k m) :
    lexL 0 l = pre (ts ++ [⟨1, (l.drop k).take (m - k), 0, k⟩]) (lexL m (l.drop m)) := by
  obtain ⟨h1, h2, h3⟩ := h
  rw [hs, cut_cons hd hkm, hd, lex_word k x _ hx, pre_ahead, h2, h3, h1]
  congr 2
  omega

theorem num_stop (hs : lexL 0 l = pre ts (lexL k (l.drop k))) (hd : l.drop k = x :: l.drop (k + 1)) (hx : isDigit x = true) (hkm : k < m) (h : Stops isDigit l k m) (hv : valOf ((l.drop k).take (m - k)) ≤ maxNum) :
    lexL 0 l = pre (ts ++ [⟨2, (l.drop k).take (m - k), valOf ((l.drop k).take (m - k)), k⟩]) (lexL m (l.drop m)) := by
  obtain ⟨h1, h2, h3⟩ := h
  rw [cut_cons hd hkm] at hv ⊢
  rw [hs, hd, lex_num k x _ hx, h2, h3, h1, if_neg (by omega), pre_ahead]
  congr 2
  omega

theorem num_over (hs : lexL 0 l = pre ts (lexL k (l.drop k))) (hd : l.drop k = x :: l.drop (k + 1)) (hx : isDigit x = true) (hkm : k < m) (h : Stops isDigit l k m) (hv : maxNum < valOf ((l.drop k).take (m - k))) :
    lexL 0 l = .error (3, k) := by
  obtain ⟨h1, h2, h3⟩ := h
  rw [cut_cons hd hkm] at hv
  rw [hs, hd, lex_num k x _ hx, h1, if_pos hv]
  rfl

theorem sign_stop (hs : lexL 0 l = pre ts (lexL k (l.drop k))) (hd : l.drop k = x :: l.drop (k + 1)) (hx : isSign x = true) :
    lexL 0 l = pre (ts ++ [⟨3, (l.drop k).take (k + 1 - k), 0, k⟩]) (lexL (k + 1) (l.drop (k + 1))) := by
  rw [cut_cons hd (by omega), hs, hd, lex_sign k x _ hx, pre_ahead]
  simp

theorem arrow_stop {y : UInt8} (hs : lexL 0 l = pre ts (lexL k (l.drop k))) (hd : l.drop k = x :: l.drop (k + 1)) (hd2 : l.drop (k + 1) = y :: l.drop (k + 2)) (hx : x.toNat = 45) (hy : y.toNat = 62) :
    lexL 0 l = pre (ts ++ [⟨3, (l.drop k).take (k + 2 - k), 0, k⟩]) (lexL (k + 2) (l.drop (k + 2))) := by
  have e1 : x = 45 := UInt8.toNat_inj.1 hx
  have e2 : y = 62 := UInt8.toNat_inj.1 hy
  rw [cut_cons hd (by omega), hs, hd, hd2, lex_arrow k x _ hx y hy, pre_ahead, e1, e2]
  simp

theorem bad_stop (hs : lexL 0 l = pre ts (lexL k (l.drop k))) (hd : l.drop k = x :: l.drop (k + 1)) (h1 : isBlank x = false) (h2 : ¬ x.toNat = 35) (h3 : isSmall x = false) (h4 : isDigit x = false)
    (h5 : ¬ (x.toNat = 45 ∧ ((l.drop (k + 1)).head?.map UInt8.toNat) = some 62)) (h6 : isSign x = false) : lexL 0 l = .error (6, k) := by
  rw [hs, hd, lex_bad k x _ h1 h2 h3 h4 h5 h6]
  rfl

theorem val_step {i : Nat} (hki : k ≤ i) (hi : i < l.length) : valOf ((l.drop k).take (i + 1 - k)) = valOf ((l.drop k).take (i - k)) * 10 + (l[i].toNat - 48) := by
  have hlt : i - k < (l.drop k).length := by rw [List.length_drop]; omega
  rw [show i + 1 - k = (i - k) + 1 by omega, List.take_succ_eq_append_getElem hlt, valOf_snoc, List.getElem_drop]
  simp only [show k + (i - k) = i by omega]

theorem val_mono {i : Nat} (him : i ≤ m) : valOf ((l.drop k).take (i - k)) ≤ valOf ((l.drop k).take (m - k)) := by
  have h := valOf_take_le ((l.drop k).take (m - k)) (i - k)
  rw [List.take_take, show min (i - k) (m - k) = i - k by omega] at h
  exact h

theorem hash_stop (hs : lexL 0 l = pre ts (lexL k (l.drop k))) (hd : l.drop k = x :: l.drop (k + 1)) (hx : x.toNat = 35) (hkm : k ≤ m) (hm : m ≤ l.length) (hall : ∀ i (hi : i < l.length), k + 1 ≤ i → i < m → (l[i].toNat != 10) = true)
    (hst : ∀ hi : m < l.length, (l[m].toNat != 10) = false) (hne : k ≠ m) : lexL 0 l = pre ts (lexL m (l.drop m)) ∧ k < m := by
  have hlt : k < m := by omega
  obtain ⟨h1, h2, h3⟩ := scan_stop (P := fun c => c.toNat != 10) l k m hlt hm hall hst
  refine ⟨?_, hlt⟩
  rw [hs, hd, lex_hash k x _ hx, h2, h3]
  congr 2
  omega

theorem wordy_no {z : Int} (h : wordyI z = false) : smallI z = false ∧ digitI z = false ∧ (z == 46) = false := by
  unfold wordyI at h
  simp only [Bool.or_eq_false_iff] at h
  exact ⟨h.1.1, h.1.2, by simpa using h.2⟩

theorem wordy_point {z : Int} (h : wordyI z = true) (h1 : smallI z = false) (h2 : digitI z = false) : z = 46 := by
  unfold wordyI at h
  rw [h1, h2] at h
  simpa using h

/-- a token more -/
theorem InR.next {t : Tok} {W2 w3 : World} {v3 : Value} {k2 : Nat} (h : InR w wr A n l k ts v) (hb : Below wr.heap.size wr W2) (ho : w3.ownsRow w.heap.size 118 4 v3 (ts ++ [t]).length (toksL (ts ++ [t])))
    (hk : Kept (fun j => v.ownBlock = some j) W2 w3) (hsame : lexL 0 l = pre (ts ++ [t]) (lexL k2 (l.drop k2))) (hk2 : k < k2) (hB : BytesAt w A n l) : InR w w3 A n l k2 (ts ++ [t]) v3 := by
  have hown : ∀ j, v.ownBlock = some j → w.heap.size ≤ j := fun j hj => (h.row.lt j hj).1
  have hs := h.below.size
  have hkb : Below w.heap.size W2 w3 := hk.below hown (by have := hb.size; omega)
  have hbw : Below w.heap.size w w3 := h.below.trans ((hb.mono hs).trans hkb)
  exact ⟨ho, hB.below hbw, hbw, hsame, by have := h.few; simp; omega⟩

set_option maxRecDepth 100000 in
set_option maxHeartbeats 8000000 in
theorem rtokens_any (h : BytesAt w A n l) (c : Nat) (hc : n ≤ c) (hn : n ≤ 2000000) :
    Calls Try.prog 62 #[.slice A n c] w fun e w' => ∃ v x y, e = .returned (.tuple #[v, x, y]) ∧ RTokensOut w.heap.size w' l v x y ∧ Below w.heap.size w w' := by
  have H := Lib.hid h
  clear h
  go_enter Try.func62, Try.ntmps62
  go_wp2
  go_loopw [5, 6] (fun s t wr => ∃ k : Nat, ∃ ts, k ≤ n ∧ t = .int .i64 k ∧ InR w wr A n l k ts s) (fun _ t _ => n - (intOf t).toNat)
  case atStart => exact ⟨0, [], by omega, rfl, ⟨World.ownsRow_nil _ _ _ _, H.out, Below.refl _ _, by rw [pre_nil]; rfl, by simp⟩⟩
  case round =>
    rename World => v0
    obtain ⟨k, ts, hkn, rfl, hI⟩ := hrel
    have HI := Lib.hid hI
    clear hI
    by_cases hlt : k < n
    · have hlti : (k : Int) < (n : Int) := by omega
      obtain ⟨b, off, x, hA, hb, hx, hd, hce⟩ := HI.out.bytes.at_ hlt
      subst hA
      obtain ⟨z, hz⟩ : ∃ z, z = zi x := ⟨_, rfl⟩
      rw [← hz] at hce
      have Hz := Lib.hid hz
      have Hd := Lib.hid hd
      have Hx := Lib.hid hx
      clear hz hd hx
      by_cases hblank : z = 32 ∨ z = 9 ∨ z = 13 ∨ z = 10
      · have HB : Hid (lexL 0 l = pre ts (lexL (k + 1) (l.drop (k + 1)))) := Lib.hid (by
          rw [HI.out.same, Hd.out, lex_blank k x _ ?_]
          rcases hblank with e | e | e | e <;> rw [Hz.out] at e
          · exact blank_of (m := 32) e (by omega)
          · exact blank_of (m := 9) e (by omega)
          · exact blank_of (m := 13) e (by omega)
          · exact blank_of (m := 10) e (by omega))
        rcases hblank with rfl | rfl | rfl | rfl
        all_goals
          go_wp2
          go_roundw
          case rel => exact ⟨k + 1, ts, by omega, by go_num, ⟨HI.out.row, HI.out.bytes, HI.out.below, HB.out, by have := HI.out.few; omega⟩⟩
          case measure => simp [intOf]; omega
      · have n1 : (z == 32) = false := by simp; omega
        have n2 : (z == 9) = false := by simp; omega
        have n3 : (z == 13) = false := by simp; omega
        have n4 : (z == 10) = false := by simp; omega
        have Hbl : Hid (isBlank x = false) := Lib.hid (by
          have e := Hz.out
          unfold zi at e
          unfold isBlank
          simp
          omega)
        clear hblank
        by_cases hh : z = 35
        · subst hh
          have hx35 : Hid (x.toNat = 35) := Lib.hid (zi_eq (m := 35) Hz.out.symm)
          go_wp2
          go_loop [6] (fun t => ∃ m : Nat, k ≤ m ∧ m ≤ n ∧ t = .int .i64 m ∧ ∀ i (hi : i < l.length), k + 1 ≤ i → i < m → (l[i].toNat != 10) = true) (fun t => n - (intOf t).toNat)
          case atStart => exact ⟨k, by omega, by omega, rfl, fun i hi h1 h2 => by omega⟩
          case round =>
            obtain ⟨m, hkm, hmn, rfl, hall⟩ := hrel
            have Hall := Lib.hid hall
            clear hall
            by_cases hmlt : m < n
            · obtain ⟨b', off', y, hA, hb', hy, hd', hcy⟩ := HI.out.bytes.at_ hmlt
              injection hA with hA
              injection hA with e1 e2
              subst e1; subst e2
              obtain ⟨zy, hzy⟩ : ∃ zy, zy = zi y := ⟨_, rfl⟩
              rw [← hzy] at hcy
              have hyl : Hid (∀ hk : m < l.length, l[m] = y) := Lib.hid (fun hk => (List.getElem?_eq_some_iff.1 hy).2)
              have Hzy := Lib.hid hzy
              have hmi : (m : Int) < (n : Int) := by omega
              clear hzy hd' hy hb'
              by_cases hten : zy = 10
              · have HE : Hid (lexL 0 l = pre ts (lexL m (l.drop m)) ∧ k < m) := Lib.hid (hash_stop HI.out.same Hd.out hx35.out hkm (by rw [H.out.len]; omega) Hall.out (by
                  intro hm
                  rw [hyl.out hm]
                  have := Hzy.out
                  unfold zi at this
                  simp
                  omega) (by
                  intro e
                  have h1 := Hx.out
                  have h2 : l[m]? = some y := by rw [List.getElem?_eq_getElem (by rw [H.out.len]; omega), hyl.out]
                  rw [e, h2] at h1
                  injection h1 with h1
                  subst h1
                  have := Hzy.out
                  have := Hz.out
                  omega))
                subst hten
                go_wp2
                go_roundw
                case rel => exact ⟨m, ts, hmn, rfl, ⟨HI.out.row, HI.out.bytes, HI.out.below, HE.out.1, by have := HI.out.few; omega⟩⟩
                case measure => have := HE.out.2; simp [intOf]; omega
              · have hne : (zy != 10) = true := by simpa using hten
                go_wp2
                go_round
                case rel => exact ⟨m + 1, by omega, by omega, by go_num, fun i hi h1 h2 => by
                  by_cases e : i = m
                  · subst e
                    rw [hyl.out hi]
                    have := Hzy.out
                    unfold zi at this
                    simp
                    omega
                  · exact Hall.out i hi h1 (by omega)⟩
                case measure => simp [intOf]; omega
            · have hmi : ¬ (m : Int) < (n : Int) := by omega
              obtain rfl : n = m := by omega
              have HE : Hid (lexL 0 l = pre ts (lexL n (l.drop n)) ∧ k < n) := Lib.hid (hash_stop HI.out.same Hd.out hx35.out hkm (by rw [H.out.len]; omega) Hall.out (by
                intro hm
                rw [H.out.len] at hm
                omega) (by omega))
              go_wp2_with fail
              go_roundw
              case rel => exact ⟨n, ts, hmn, rfl, ⟨HI.out.row, HI.out.bytes, HI.out.below, HE.out.1, by have := HI.out.few; omega⟩⟩
              case measure => have := HE.out.2; simp [intOf]; omega
        · have n5 : (z == 35) = false := by simp; omega
          cases h1 : smallI z with
          | true =>
            have Hsm : Hid (isSmall x = true) := Lib.hid (by rw [← small_zi, ← Hz.out]; exact h1)
            go_wp2_with (first | (go_at_call 88; refine (rsmall_any _ _).mono ?_; rintro e w' ⟨rfl, rfl⟩) | (go_at_call 89; refine (rdigit_any _ _).mono ?_; rintro e w' ⟨rfl, rfl⟩))
            go_loopw [8] (fun t W => ∃ m kd v : Nat, k < m ∧ m ≤ n ∧ kd = 1 ∧ v = 0 ∧ t = .int .i64 m ∧ BoxT v0 W kd v k ∧ ∀ i (hi : i < l.length), k + 1 ≤ i → i < m → isWordy l[i] = true) (fun t _ => n - (intOf t).toNat)
            case atStart => exact ⟨k + 1, 1, 0, by omega, by omega, rfl, rfl, by go_num, ⟨heap_alloc_new v0 _, (Below.refl _ v0).alloc (Nat.le_refl _) _⟩, fun i hi h1 h2 => by omega⟩
            case round =>
              obtain ⟨m, kd, v, hkm, hmn, hkd, hv0, rfl, hbox, hall⟩ := hrel
              have HBox := Lib.hid hbox
              have Hall := Lib.hid hall
              have Hkd := Lib.hid hkd
              have Hv0 := Lib.hid hv0
              clear hbox hall hkd hv0
              by_cases hmlt : m < n
              · obtain ⟨b', off', y, hA, hb', hy, hd', hcy⟩ := (HI.out.bytes.below HBox.out.below).at_ hmlt
                injection hA with hA
                injection hA with e1 e2
                subst e1; subst e2
                obtain ⟨zy, hzy⟩ : ∃ zy, zy = zi y := ⟨_, rfl⟩
                rw [← hzy] at hcy
                have hyl : Hid (∀ hk : m < l.length, l[m] = y) := Lib.hid (fun hk => (List.getElem?_eq_some_iff.1 hy).2)
                have Hzy := Lib.hid hzy
                have hmi : (m : Int) < (n : Int) := by omega
                clear hzy hd' hy hb'
                cases hP : wordyI zy with
                | true =>
                  have Hnext : Hid (∀ i (hi : i < l.length), k + 1 ≤ i → i < m + 1 → isWordy l[i] = true) := Lib.hid (fun i hi h1 h2 => by
                    by_cases e : i = m
                    · subst e
                      rw [hyl.out hi, ← wordy_zi, ← Hzy.out]
                      exact hP
                    · exact Hall.out i hi h1 (by omega))
                  have hw := Lib.hid hP
                  clear hP
                  cases g1 : smallI zy with
                  | true =>
                    go_wp2_with (first | (go_at_call 88; refine (rsmall_any _ _).mono ?_; rintro e w' ⟨rfl, rfl⟩) | (go_at_call 89; refine (rdigit_any _ _).mono ?_; rintro e w' ⟨rfl, rfl⟩))
                    go_roundw
                    case rel => exact ⟨m + 1, kd, v, by omega, by omega, Hkd.out, Hv0.out, by go_num, HBox.out, Hnext.out⟩
                    case measure => simp [intOf]; omega
                  | false =>
                    cases g2 : digitI zy with
                    | true =>
                      go_wp2_with (first | (go_at_call 88; refine (rsmall_any _ _).mono ?_; rintro e w' ⟨rfl, rfl⟩) | (go_at_call 89; refine (rdigit_any _ _).mono ?_; rintro e w' ⟨rfl, rfl⟩))
                      go_roundw
                      case rel => exact ⟨m + 1, kd, v, by omega, by omega, Hkd.out, Hv0.out, by go_num, HBox.out, Hnext.out⟩
                      case measure => simp [intOf]; omega
                    | false =>
                      obtain rfl := wordy_point hw.out g1 g2
                      clear hw
                      go_wp2_with (first | (go_at_call 88; refine (rsmall_any _ _).mono ?_; rintro e w' ⟨rfl, rfl⟩) | (go_at_call 89; refine (rdigit_any _ _).mono ?_; rintro e w' ⟨rfl, rfl⟩))
                      go_roundw
                      case rel => exact ⟨m + 1, kd, v, by omega, by omega, Hkd.out, Hv0.out, by go_num, HBox.out, Hnext.out⟩
                      case measure => simp [intOf]; omega
                | false =>
                  have HS := Lib.hid (scan_stop l k m hkm (by rw [H.out.len]; omega) Hall.out (fun hk => by rw [hyl.out hk, ← wordy_zi, ← Hzy.out]; exact hP))
                  have HE : Hid (lexL 0 l = pre (ts ++ [⟨kd, (l.drop k).take (m - k), v, k⟩]) (lexL m (l.drop m))) := Lib.hid (by
                    rw [Hkd.out, Hv0.out]
                    exact word_stop HI.out.same Hd.out Hsm.out hkm HS.out)
                  obtain ⟨g1, g2, g4⟩ := wordy_no hP
                  clear hP
                  go_upto_region 36 with (first | (go_at_call 88; refine (rsmall_any _ _).mono ?_; rintro e w' ⟨rfl, rfl⟩) | (go_at_call 89; refine (rdigit_any _ _).mono ?_; rintro e w' ⟨rfl, rfl⟩))
                  obtain ⟨⟨c0, c1, c2, c3⟩, ⟨f0, f1, f2, f3⟩, hlt5⟩ := new4 HBox.out.blk (Below.refl _ _)
                  have hstr := (((HI.out.bytes.below HBox.out.below).drop k (by omega)).take (m - k) (by omega)).str (c - k)
                  obtain ⟨sv, hsv⟩ : ∃ sv, sv = bs ((l.drop k).take (m - k)) := ⟨_, rfl⟩
                  rw [← hsv] at hstr
                  have hb2 : Below v0.heap.size v0 (wr.setCell ⟨v0.heap.size, 1, none⟩ (.string sv)) := HBox.out.below.setCell (Nat.le_refl _) _
                  have hfew := HI.out.few
                  obtain ⟨v3, w3, hr3, ho3, hk3⟩ := run_push_rtok 114 ⟨kd, (l.drop k).take (m - k), v, k⟩ (own_moves HI.out.row hb2) (by omega) (by have := HI.out.below.size; have := hb2.size; omega)
                  have HN := Lib.hid (HI.out.next hb2 ho3 hk3 HE.out hkm H.out)
                  simp only [← hsv, Go.Deep.nblk_setCell] at hr3
                  obtain ⟨av, cv, hv⟩ := own_form HI.out.row
                  subst hv
                  have hkc : ¬ c = k := by omega
                  have hkc2 : k < c := by omega
                  have hmc : m ≤ c := by omega
                  clear hb2 ho3 hk3 hsv
                  go_wp2_with (at_builtin; refine wpList_append_eq rfl (.tmp 159) (.tmp 161) 114 rfl rfl rfl hr3 ?_)
                  go_roundw
                  case rel => exact ⟨m, _, hmn, rfl, HN.out⟩
                  case measure => simp [intOf]; omega
              · have hmi : ¬ (m : Int) < (n : Int) := by omega
                have HS := Lib.hid (scan_stop l k m hkm (by rw [H.out.len]; omega) Hall.out (fun hk => by rw [H.out.len] at hk; omega))
                have HE : Hid (lexL 0 l = pre (ts ++ [⟨kd, (l.drop k).take (m - k), v, k⟩]) (lexL m (l.drop m))) := Lib.hid (by
                  rw [Hkd.out, Hv0.out]
                  exact word_stop HI.out.same Hd.out Hsm.out hkm HS.out)
                go_upto_region 36 with (first | (go_at_call 88; refine (rsmall_any _ _).mono ?_; rintro e w' ⟨rfl, rfl⟩) | (go_at_call 89; refine (rdigit_any _ _).mono ?_; rintro e w' ⟨rfl, rfl⟩))
                obtain ⟨⟨c0, c1, c2, c3⟩, ⟨f0, f1, f2, f3⟩, hlt5⟩ := new4 HBox.out.blk (Below.refl _ _)
                have hstr := (((HI.out.bytes.below HBox.out.below).drop k (by omega)).take (m - k) (by omega)).str (c - k)
                obtain ⟨sv, hsv⟩ : ∃ sv, sv = bs ((l.drop k).take (m - k)) := ⟨_, rfl⟩
                rw [← hsv] at hstr
                have hb2 : Below v0.heap.size v0 (wr.setCell ⟨v0.heap.size, 1, none⟩ (.string sv)) := HBox.out.below.setCell (Nat.le_refl _) _
                have hfew := HI.out.few
                obtain ⟨v3, w3, hr3, ho3, hk3⟩ := run_push_rtok 114 ⟨kd, (l.drop k).take (m - k), v, k⟩ (own_moves HI.out.row hb2) (by omega) (by have := HI.out.below.size; have := hb2.size; omega)
                have HN := Lib.hid (HI.out.next hb2 ho3 hk3 HE.out hkm H.out)
                simp only [← hsv, Go.Deep.nblk_setCell] at hr3
                obtain ⟨av, cv, hv⟩ := own_form HI.out.row
                subst hv
                have hkc : ¬ c = k := by omega
                have hkc2 : k < c := by omega
                have hmc : m ≤ c := by omega
                clear hb2 ho3 hk3 hsv
                go_wp2_with (at_builtin; refine wpList_append_eq rfl (.tmp 159) (.tmp 161) 114 rfl rfl rfl hr3 ?_)
                go_roundw
                case rel => exact ⟨m, _, hmn, rfl, HN.out⟩
                case measure => simp [intOf]; omega
          | false =>
            have Hns : Hid (isSmall x = false) := Lib.hid (by rw [← small_zi, ← Hz.out]; exact h1)
            cases h2 : digitI z with
            | true =>
              have Hdg : Hid (isDigit x = true) := Lib.hid (by rw [← digit_zi, ← Hz.out]; exact h2)
              go_wp2_with (first | (go_at_call 88; refine (rsmall_any _ _).mono ?_; rintro e w' ⟨rfl, rfl⟩) | (go_at_call 89; refine (rdigit_any _ _).mono ?_; rintro e w' ⟨rfl, rfl⟩))
              go_loopw [8] (fun t W => ∃ m kd v : Nat, k < m ∧ m ≤ n ∧ kd = 2 ∧ v = 0 ∧ t = .int .i64 m ∧ BoxT v0 W kd v k ∧ ∀ i (hi : i < l.length), k + 1 ≤ i → i < m → isDigit l[i] = true) (fun t _ => n - (intOf t).toNat)
              case atStart => exact ⟨k + 1, 2, 0, by omega, by omega, rfl, rfl, by go_num, ⟨heap_alloc_new v0 _, (Below.refl _ v0).alloc (Nat.le_refl _) _⟩, fun i hi h1 h2 => by omega⟩
              case round =>
                obtain ⟨m, kd, v, hkm, hmn, hkd, hv0, rfl, hbox, hall⟩ := hrel
                have HBox := Lib.hid hbox
                have Hall := Lib.hid hall
                have Hkd := Lib.hid hkd
                have Hv0 := Lib.hid hv0
                clear hbox hall hkd hv0
                by_cases hmlt : m < n
                · obtain ⟨b', off', y, hA, hb', hy, hd', hcy⟩ := (HI.out.bytes.below HBox.out.below).at_ hmlt
                  injection hA with hA
                  injection hA with e1 e2
                  subst e1; subst e2
                  obtain ⟨zy, hzy⟩ : ∃ zy, zy = zi y := ⟨_, rfl⟩
                  rw [← hzy] at hcy
                  have hyl : Hid (∀ hk : m < l.length, l[m] = y) := Lib.hid (fun hk => (List.getElem?_eq_some_iff.1 hy).2)
                  have Hzy := Lib.hid hzy
                  have hmi : (m : Int) < (n : Int) := by omega
                  clear hzy hd' hy hb'
                  cases hP : digitI zy with
                  | true =>
                    have Hnext : Hid (∀ i (hi : i < l.length), k + 1 ≤ i → i < m + 1 → isDigit l[i] = true) := Lib.hid (fun i hi h1 h2 => by
                      by_cases e : i = m
                      · subst e
                        rw [hyl.out hi, ← digit_zi, ← Hzy.out]
                        exact hP
                      · exact Hall.out i hi h1 (by omega))
                    go_wp2_with (first | (go_at_call 88; refine (rsmall_any _ _).mono ?_; rintro e w' ⟨rfl, rfl⟩) | (go_at_call 89; refine (rdigit_any _ _).mono ?_; rintro e w' ⟨rfl, rfl⟩))
                    go_roundw
                    case rel => exact ⟨m + 1, kd, v, by omega, by omega, Hkd.out, Hv0.out, by go_num, HBox.out, Hnext.out⟩
                    case measure => simp [intOf]; omega
                  | false =>
                    have HS := Lib.hid (scan_stop l k m hkm (by rw [H.out.len]; omega) Hall.out (fun hk => by rw [hyl.out hk, ← digit_zi, ← Hzy.out]; exact hP))
                    have Hdig : Hid (∀ i (hi : i < l.length), k ≤ i → i < m → isDigit l[i] = true) := Lib.hid (fun i hi h1 h2 => by
                      by_cases e : i = k
                      · subst e
                        have := (List.getElem?_eq_some_iff.1 Hx.out).2
                        rw [this]
                        exact Hdg.out
                      · exact Hall.out i hi (by omega) h2)
                    go_wp2_with (first | (go_at_call 88; refine (rsmall_any _ _).mono ?_; rintro e w' ⟨rfl, rfl⟩) | (go_at_call 89; refine (rdigit_any _ _).mono ?_; rintro e w' ⟨rfl, rfl⟩))
                    go_loopw [10] (fun t W => ∃ i v kd : Nat, k ≤ i ∧ i ≤ m ∧ kd = 2 ∧ t = .int .i64 i ∧ v = valOf ((l.drop k).take (i - k)) ∧ v ≤ 1125899906842624 ∧ BoxT v0 W kd v k) (fun t _ => m - (intOf t).toNat)
                    case atStart => exact ⟨k, v, kd, by omega, by omega, Hkd.out, rfl, by rw [Hv0.out]; simp [valOf], by rw [Hv0.out]; omega, HBox.out⟩
                    case round =>
                      clear HBox Hkd Hv0
                      obtain ⟨i, v, kd, hki, him, hkd, rfl, hu, hum, hbox⟩ := hrel
                      have HBox := Lib.hid hbox
                      have Hkd := Lib.hid hkd
                      have Hu := Lib.hid hu
                      clear hbox hkd hu
                      by_cases hilt : i < m
                      · obtain ⟨b', off', y2, hA, hb', hy2, hd', hcy2⟩ := (HI.out.bytes.below HBox.out.below).at_ (show i < n by omega)
                        injection hA with hA
                        injection hA with e1 e2
                        subst e1; subst e2
                        have hil : i < l.length := by rw [H.out.len]; omega
                        have hyi : l[i] = y2 := (List.getElem?_eq_some_iff.1 hy2).2
                        have hdg : isDigit y2 = true := by rw [← hyi]; exact Hdig.out i hil hki hilt
                        have hd2 : 48 ≤ y2.toNat ∧ y2.toNat ≤ 57 := by simpa [isDigit] using hdg
                        have hvs := val_step (l := l) hki hil
                        rw [hyi, ← Hu.out] at hvs
                        obtain ⟨d, hdd⟩ : ∃ d, d = y2.toNat - 48 := ⟨_, rfl⟩
                        rw [← hdd] at hvs
                        have Hvs := Lib.hid hvs
                        have hzz : zi y2 = (d : Int) + 48 := by unfold zi; omega
                        rw [hzz] at hcy2
                        have hd9 : d ≤ 9 := by omega
                        have hii : (i : Int) < (m : Int) := by omega
                        have hin2 : (i : Int) < (n : Int) := by omega
                        obtain ⟨⟨c0, c1, c2, c3⟩, ⟨f0, f1, f2, f3⟩, hlt5⟩ := new4 HBox.out.blk (Below.refl _ _)
                        clear hd' hy2 hb' hyi hdg hd2 hvs hdd hzz
                        by_cases hbig : 1125899906842624 < v * 10 + d
                        · have HErr : Hid (lexL 0 l = .error (3, k)) := Lib.hid (num_over HI.out.same Hd.out Hdg.out hkm HS.out (by
                            have := val_mono (l := l) (k := k) (show i + 1 ≤ m by omega)
                            rw [Hvs.out] at this
                            unfold maxNum
                            omega))
                          have hbi : (1125899906842624 : Int) < (v : Int) * 10 + (d : Int) := by omega
                          go_wp2
                          go_region
                          go_wp2
                          go_ret3
                          exact ⟨_, _, _, rfl, .inr ⟨3, k, HErr.out, by omega, by rw [H.out.len]; omega, rfl, rfl, rfl⟩, HI.out.below.trans (((below_drew HBox.out.below).setCell (Nat.le_refl _) _).mono HI.out.below.size)⟩
                        · have hbi : ¬ (1125899906842624 : Int) < (v : Int) * 10 + (d : Int) := by omega
                          go_wp2
                          go_region
                          go_wp2
                          go_roundw
                          case rel => exact ⟨i + 1, v * 10 + d, kd, by omega, by omega, Hkd.out, by go_num, by rw [Hvs.out], by omega, by have hq := (HBox.out.drew).num (v * 10 + d); rw [show ((v * 10 + d : Nat) : Int) = (v : Int) * 10 + (d : Int) by omega] at hq; exact hq⟩
                          case measure => simp [intOf]; omega
                      · obtain rfl : m = i := by omega
                        have HE : Hid (lexL 0 l = pre (ts ++ [⟨kd, (l.drop k).take (m - k), v, k⟩]) (lexL m (l.drop m))) := Lib.hid (by
                          rw [Hkd.out, Hu.out]
                          exact num_stop HI.out.same Hd.out Hdg.out hkm HS.out (by rw [← Hu.out]; exact hum))
                        go_upto_region 36 with (fail)
                        obtain ⟨⟨c0, c1, c2, c3⟩, ⟨f0, f1, f2, f3⟩, hlt5⟩ := new4 HBox.out.blk (Below.refl _ _)
                        have hstr := (((HI.out.bytes.below HBox.out.below).drop k (by omega)).take (m - k) (by omega)).str (c - k)
                        obtain ⟨sv, hsv⟩ : ∃ sv, sv = bs ((l.drop k).take (m - k)) := ⟨_, rfl⟩
                        rw [← hsv] at hstr
                        have hb2 : Below v0.heap.size v0 (wr.setCell ⟨v0.heap.size, 1, none⟩ (.string sv)) := HBox.out.below.setCell (Nat.le_refl _) _
                        have hfew := HI.out.few
                        obtain ⟨v3, w3, hr3, ho3, hk3⟩ := run_push_rtok 114 ⟨kd, (l.drop k).take (m - k), v, k⟩ (own_moves HI.out.row hb2) (by omega) (by have := HI.out.below.size; have := hb2.size; omega)
                        have HN := Lib.hid (HI.out.next hb2 ho3 hk3 HE.out hkm H.out)
                        simp only [← hsv, Go.Deep.nblk_setCell] at hr3
                        obtain ⟨av, cv, hv⟩ := own_form HI.out.row
                        subst hv
                        have hkc : ¬ c = k := by omega
                        have hkc2 : k < c := by omega
                        have hmc : m ≤ c := by omega
                        clear hb2 ho3 hk3 hsv
                        go_wp2_with (at_builtin; refine wpList_append_eq rfl (.tmp 159) (.tmp 161) 114 rfl rfl rfl hr3 ?_)
                        go_roundw
                        case rel => exact ⟨m, _, hmn, rfl, HN.out⟩
                        case measure => simp [intOf]; omega
                · have hmi : ¬ (m : Int) < (n : Int) := by omega
                  have HS := Lib.hid (scan_stop l k m hkm (by rw [H.out.len]; omega) Hall.out (fun hk => by rw [H.out.len] at hk; omega))
                  have Hdig : Hid (∀ i (hi : i < l.length), k ≤ i → i < m → isDigit l[i] = true) := Lib.hid (fun i hi h1 h2 => by
                    by_cases e : i = k
                    · subst e
                      have := (List.getElem?_eq_some_iff.1 Hx.out).2
                      rw [this]
                      exact Hdg.out
                    · exact Hall.out i hi (by omega) h2)
                  go_wp2_with (first | (go_at_call 88; refine (rsmall_any _ _).mono ?_; rintro e w' ⟨rfl, rfl⟩) | (go_at_call 89; refine (rdigit_any _ _).mono ?_; rintro e w' ⟨rfl, rfl⟩))
                  go_loopw [10] (fun t W => ∃ i v kd : Nat, k ≤ i ∧ i ≤ m ∧ kd = 2 ∧ t = .int .i64 i ∧ v = valOf ((l.drop k).take (i - k)) ∧ v ≤ 1125899906842624 ∧ BoxT v0 W kd v k) (fun t _ => m - (intOf t).toNat)
                  case atStart => exact ⟨k, v, kd, by omega, by omega, Hkd.out, rfl, by rw [Hv0.out]; simp [valOf], by rw [Hv0.out]; omega, HBox.out⟩
                  case round =>
                    clear HBox Hkd Hv0
                    obtain ⟨i, v, kd, hki, him, hkd, rfl, hu, hum, hbox⟩ := hrel
                    have HBox := Lib.hid hbox
                    have Hkd := Lib.hid hkd
                    have Hu := Lib.hid hu
                    clear hbox hkd hu
                    by_cases hilt : i < m
                    · obtain ⟨b', off', y2, hA, hb', hy2, hd', hcy2⟩ := (HI.out.bytes.below HBox.out.below).at_ (show i < n by omega)
                      injection hA with hA
                      injection hA with e1 e2
                      subst e1; subst e2
                      have hil : i < l.length := by rw [H.out.len]; omega
                      have hyi : l[i] = y2 := (List.getElem?_eq_some_iff.1 hy2).2
                      have hdg : isDigit y2 = true := by rw [← hyi]; exact Hdig.out i hil hki hilt
                      have hd2 : 48 ≤ y2.toNat ∧ y2.toNat ≤ 57 := by simpa [isDigit] using hdg
                      have hvs := val_step (l := l) hki hil
                      rw [hyi, ← Hu.out] at hvs
                      obtain ⟨d, hdd⟩ : ∃ d, d = y2.toNat - 48 := ⟨_, rfl⟩
                      rw [← hdd] at hvs
                      have Hvs := Lib.hid hvs
                      have hzz : zi y2 = (d : Int) + 48 := by unfold zi; omega
                      rw [hzz] at hcy2
                      have hd9 : d ≤ 9 := by omega
                      have hii : (i : Int) < (m : Int) := by omega
                      have hin2 : (i : Int) < (n : Int) := by omega
                      obtain ⟨⟨c0, c1, c2, c3⟩, ⟨f0, f1, f2, f3⟩, hlt5⟩ := new4 HBox.out.blk (Below.refl _ _)
                      clear hd' hy2 hb' hyi hdg hd2 hvs hdd hzz
                      by_cases hbig : 1125899906842624 < v * 10 + d
                      · have HErr : Hid (lexL 0 l = .error (3, k)) := Lib.hid (num_over HI.out.same Hd.out Hdg.out hkm HS.out (by
                          have := val_mono (l := l) (k := k) (show i + 1 ≤ m by omega)
                          rw [Hvs.out] at this
                          unfold maxNum
                          omega))
                        have hbi : (1125899906842624 : Int) < (v : Int) * 10 + (d : Int) := by omega
                        go_wp2
                        go_region
                        go_wp2
                        go_ret3
                        exact ⟨_, _, _, rfl, .inr ⟨3, k, HErr.out, by omega, by rw [H.out.len]; omega, rfl, rfl, rfl⟩, HI.out.below.trans (((below_drew HBox.out.below).setCell (Nat.le_refl _) _).mono HI.out.below.size)⟩
                      · have hbi : ¬ (1125899906842624 : Int) < (v : Int) * 10 + (d : Int) := by omega
                        go_wp2
                        go_region
                        go_wp2
                        go_roundw
                        case rel => exact ⟨i + 1, v * 10 + d, kd, by omega, by omega, Hkd.out, by go_num, by rw [Hvs.out], by omega, by have hq := (HBox.out.drew).num (v * 10 + d); rw [show ((v * 10 + d : Nat) : Int) = (v : Int) * 10 + (d : Int) by omega] at hq; exact hq⟩
                        case measure => simp [intOf]; omega
                    · obtain rfl : m = i := by omega
                      have HE : Hid (lexL 0 l = pre (ts ++ [⟨kd, (l.drop k).take (m - k), v, k⟩]) (lexL m (l.drop m))) := Lib.hid (by
                        rw [Hkd.out, Hu.out]
                        exact num_stop HI.out.same Hd.out Hdg.out hkm HS.out (by rw [← Hu.out]; exact hum))
                      go_upto_region 36 with (fail)
                      obtain ⟨⟨c0, c1, c2, c3⟩, ⟨f0, f1, f2, f3⟩, hlt5⟩ := new4 HBox.out.blk (Below.refl _ _)
                      have hstr := (((HI.out.bytes.below HBox.out.below).drop k (by omega)).take (m - k) (by omega)).str (c - k)
                      obtain ⟨sv, hsv⟩ : ∃ sv, sv = bs ((l.drop k).take (m - k)) := ⟨_, rfl⟩
                      rw [← hsv] at hstr
                      have hb2 : Below v0.heap.size v0 (wr.setCell ⟨v0.heap.size, 1, none⟩ (.string sv)) := HBox.out.below.setCell (Nat.le_refl _) _
                      have hfew := HI.out.few
                      obtain ⟨v3, w3, hr3, ho3, hk3⟩ := run_push_rtok 114 ⟨kd, (l.drop k).take (m - k), v, k⟩ (own_moves HI.out.row hb2) (by omega) (by have := HI.out.below.size; have := hb2.size; omega)
                      have HN := Lib.hid (HI.out.next hb2 ho3 hk3 HE.out hkm H.out)
                      simp only [← hsv, Go.Deep.nblk_setCell] at hr3
                      obtain ⟨av, cv, hv⟩ := own_form HI.out.row
                      subst hv
                      have hkc : ¬ c = k := by omega
                      have hkc2 : k < c := by omega
                      have hmc : m ≤ c := by omega
                      clear hb2 ho3 hk3 hsv
                      go_wp2_with (at_builtin; refine wpList_append_eq rfl (.tmp 159) (.tmp 161) 114 rfl rfl rfl hr3 ?_)
                      go_roundw
                      case rel => exact ⟨m, _, hmn, rfl, HN.out⟩
                      case measure => simp [intOf]; omega
            | false =>
              have Hnd : Hid (isDigit x = false) := Lib.hid (by rw [← digit_zi, ← Hz.out]; exact h2)
              by_cases h3 : z = 45
              · have hx45 : Hid (x.toNat = 45) := Lib.hid (by have := Hz.out; unfold zi at this; omega)
                by_cases hk1 : k + 1 < n
                · obtain ⟨b', off', y, hA, hb', hy, hd', hcy⟩ := (HI.out.bytes.below ((Below.refl _ v0).alloc (Nat.le_refl _) (.cells #[.int .u8 0, .string { data := #[] }, .int .i64 0, .int .i64 (k : Int)] 118))).at_ hk1
                  injection hA with hA
                  injection hA with e1 e2
                  subst e1; subst e2
                  obtain ⟨zy, hzy⟩ : ∃ zy, zy = zi y := ⟨_, rfl⟩
                  rw [← hzy] at hcy
                  have Hzy := Lib.hid hzy
                  have Hd2 := Lib.hid hd'
                  have hk1i : (k : Int) + 1 < (n : Int) := by omega
                  clear hzy hd' hy hb'
                  by_cases hgt : zy = 62
                  · have hy62 : Hid (y.toNat = 62) := Lib.hid (by have := Hzy.out; unfold zi at this; omega)
                    obtain ⟨m, hm⟩ : ∃ m : Nat, m = k + 2 := ⟨_, rfl⟩
                    have hkm : k < m := by omega
                    have hmn : m ≤ n := by omega
                    have HE0 : Hid (lexL 0 l = pre (ts ++ [⟨3, (l.drop k).take (m - k), 0, k⟩]) (lexL m (l.drop m))) := Lib.hid (by
                      rw [hm]
                      exact arrow_stop HI.out.same Hd.out Hd2.out hx45.out hy62.out)
                    have hmi : (k : Int) + 1 + 1 = (m : Int) := by omega
                    have hmi2 : (k : Int) + 2 = (m : Int) := by omega
                    have h3t : (z == 45) = true := by simpa using h3
                    have hgt2 : (zy == 62) = true := by simpa using hgt
                    clear hm h3 hgt
                    go_upto_region 36 with (first | (go_at_call 88; refine (rsmall_any _ _).mono ?_; rintro e w' ⟨rfl, rfl⟩) | (go_at_call 89; refine (rdigit_any _ _).mono ?_; rintro e w' ⟨rfl, rfl⟩))
                    have HB0 : BoxT v0 (v0.alloc (.cells #[.int .u8 3, .string { data := #[] }, .int .i64 0, .int .i64 (k : Int)] 118)) 3 0 k := ⟨heap_alloc_new v0 _, (Below.refl _ v0).alloc (Nat.le_refl _) _⟩
                    generalize v0.alloc (.cells #[.int .u8 3, .string { data := #[] }, .int .i64 0, .int .i64 (k : Int)] 118) = wr at HB0 ⊢
                    obtain ⟨kd, hkd⟩ : ∃ kd : Nat, kd = 3 := ⟨_, rfl⟩
                    obtain ⟨v, hv0⟩ : ∃ v : Nat, v = 0 := ⟨_, rfl⟩
                    rw [← hkd, ← hv0] at HB0
                    have HBox := Lib.hid HB0
                    have HE : Hid (lexL 0 l = pre (ts ++ [⟨kd, (l.drop k).take (m - k), v, k⟩]) (lexL m (l.drop m))) := Lib.hid (by
                      rw [hkd, hv0]
                      exact HE0.out)
                    clear hcy hkd hv0 HB0
                    obtain ⟨⟨c0, c1, c2, c3⟩, ⟨f0, f1, f2, f3⟩, hlt5⟩ := new4 HBox.out.blk (Below.refl _ _)
                    have hstr := (((HI.out.bytes.below HBox.out.below).drop k (by omega)).take (m - k) (by omega)).str (c - k)
                    obtain ⟨sv, hsv⟩ : ∃ sv, sv = bs ((l.drop k).take (m - k)) := ⟨_, rfl⟩
                    rw [← hsv] at hstr
                    have hb2 : Below v0.heap.size v0 (wr.setCell ⟨v0.heap.size, 1, none⟩ (.string sv)) := HBox.out.below.setCell (Nat.le_refl _) _
                    have hfew := HI.out.few
                    obtain ⟨v3, w3, hr3, ho3, hk3⟩ := run_push_rtok 114 ⟨kd, (l.drop k).take (m - k), v, k⟩ (own_moves HI.out.row hb2) (by omega) (by have := HI.out.below.size; have := hb2.size; omega)
                    have HN := Lib.hid (HI.out.next hb2 ho3 hk3 HE.out hkm H.out)
                    simp only [← hsv, Go.Deep.nblk_setCell] at hr3
                    obtain ⟨av, cv, hv⟩ := own_form HI.out.row
                    subst hv
                    have hkc : ¬ c = k := by omega
                    have hkc2 : k < c := by omega
                    have hmc : m ≤ c := by omega
                    clear hb2 ho3 hk3 hsv
                    go_wp2_with (at_builtin; refine wpList_append_eq rfl (.tmp 159) (.tmp 161) 114 rfl rfl rfl hr3 ?_)
                    go_roundw
                    case rel => exact ⟨m, _, hmn, rfl, HN.out⟩
                    case measure => simp [intOf]; omega
                  · have hgt2 : (zy == 62) = false := by simpa using hgt
                    have Hna : Hid (¬ (x.toNat = 45 ∧ ((l.drop (k + 1)).head?.map UInt8.toNat) = some 62)) := Lib.hid (by
                      rintro ⟨_, e⟩
                      rw [Hd2.out] at e
                      simp at e
                      have := Hzy.out
                      unfold zi at this
                      omega)
                    have h3t : (z == 45) = true := by simpa using h3
                    clear h3
                    go_wp2_with (first | (go_at_call 88; refine (rsmall_any _ _).mono ?_; rintro e w' ⟨rfl, rfl⟩) | (go_at_call 89; refine (rdigit_any _ _).mono ?_; rintro e w' ⟨rfl, rfl⟩))
                    go_loopw [11] (fun t W => ∃ i kd v : Nat, i ≤ 8 ∧ t = .int .i64 i ∧ kd = kindAt x i ∧ v = 0 ∧ BoxT v0 W kd v k) (fun t _ => 8 - (intOf t).toNat)
                    case atStart => exact ⟨0, 0, 0, by omega, rfl, rfl, rfl, ⟨heap_alloc_new v0 _, (Below.refl _ v0).alloc (Nat.le_refl _) _⟩⟩
                    case round =>
                      obtain ⟨i, kd, v, hi8, rfl, hkd, hv0, hbox⟩ := hrel
                      have HBox := Lib.hid hbox
                      have Hkd := Lib.hid hkd
                      have Hv0 := Lib.hid hv0
                      clear hbox hkd hv0
                      obtain ⟨⟨c0, c1, c2, c3⟩, ⟨f0, f1, f2, f3⟩, hlt5⟩ := new4 HBox.out.blk (Below.refl _ _)
                      by_cases hilt : i < 8
                      · obtain ⟨s, hs⟩ : ∃ s, signsL[i]? = some s := ⟨_, List.getElem?_eq_getElem (show i < signsL.length from hilt)⟩
                        have hix := sign_index i s hs wr
                        have hks := kindAt_succ x i s hs
                        have Hks := Lib.hid hks
                        have hii : (i : Int) < 8 := by omega
                        clear hs hks
                        by_cases hsz : (s : Int) = z
                        · have hbe : ((s : Int) == z) = true := by simpa using hsz
                          have HK : Hid (kindAt x (i + 1) = 3) := Lib.hid (by rw [Hks.out, if_pos]; have := Hz.out; unfold zi at this; omega)
                          have HB3 := Lib.hid (HBox.out.kind 3)
                          clear hsz
                          go_wp2
                          go_roundw
                          case rel => exact ⟨i + 1, 3, v, by omega, by go_num, HK.out.symm, Hv0.out, HB3.out⟩
                          case measure => simp [intOf]; omega
                        · have hbe : ((s : Int) == z) = false := by simpa using hsz
                          have HK : Hid (kindAt x (i + 1) = kindAt x i) := Lib.hid (by rw [Hks.out, if_neg]; have := Hz.out; unfold zi at this; omega)
                          clear hsz
                          go_wp2
                          go_roundw
                          case rel => exact ⟨i + 1, kd, v, by omega, by go_num, by rw [HK.out]; exact Hkd.out, Hv0.out, HBox.out⟩
                          case measure => simp [intOf]; omega
                      · obtain rfl : 8 = i := by omega
                        cases hsg : isSign x with
                        | true =>
                          have Hsg := Lib.hid hsg
                          have hk3 : kd = 3 := by rw [Hkd.out, kindAt_full, hsg]; rfl
                          have hne : ((kd : Int) == 0) = false := by rw [hk3]; rfl
                          obtain ⟨m, hm⟩ : ∃ m : Nat, m = k + 1 := ⟨_, rfl⟩
                          have hkm : k < m := by omega
                          have hmn : m ≤ n := by omega
                          have HE : Hid (lexL 0 l = pre (ts ++ [⟨kd, (l.drop k).take (m - k), v, k⟩]) (lexL m (l.drop m))) := Lib.hid (by
                            rw [hk3, Hv0.out, hm]
                            exact sign_stop HI.out.same Hd.out Hsg.out)
                          have hmi : (k : Int) + 1 = (m : Int) := by omega
                          clear hsg hk3 hm c0 c1 c2 c3 f0 f1 f2 f3 hlt5
                          obtain ⟨⟨c0, c1, c2, c3⟩, ⟨f0, f1, f2, f3⟩, hlt5⟩ := new4 HBox.out.blk (Below.refl _ _)
                          go_upto_region 36 with (fail)
                          clear c0 c1 c2 c3 f0 f1 f2 f3 hlt5
                          obtain ⟨⟨c0, c1, c2, c3⟩, ⟨f0, f1, f2, f3⟩, hlt5⟩ := new4 HBox.out.blk (Below.refl _ _)
                          have hstr := (((HI.out.bytes.below HBox.out.below).drop k (by omega)).take (m - k) (by omega)).str (c - k)
                          obtain ⟨sv, hsv⟩ : ∃ sv, sv = bs ((l.drop k).take (m - k)) := ⟨_, rfl⟩
                          rw [← hsv] at hstr
                          have hb2 : Below v0.heap.size v0 (wr.setCell ⟨v0.heap.size, 1, none⟩ (.string sv)) := HBox.out.below.setCell (Nat.le_refl _) _
                          have hfew := HI.out.few
                          obtain ⟨v3, w3, hr3, ho3, hk3⟩ := run_push_rtok 114 ⟨kd, (l.drop k).take (m - k), v, k⟩ (own_moves HI.out.row hb2) (by omega) (by have := HI.out.below.size; have := hb2.size; omega)
                          have HN := Lib.hid (HI.out.next hb2 ho3 hk3 HE.out hkm H.out)
                          simp only [← hsv, Go.Deep.nblk_setCell] at hr3
                          obtain ⟨av, cv, hv⟩ := own_form HI.out.row
                          subst hv
                          have hkc : ¬ c = k := by omega
                          have hkc2 : k < c := by omega
                          have hmc : m ≤ c := by omega
                          clear hb2 ho3 hk3 hsv
                          go_wp2_with (at_builtin; refine wpList_append_eq rfl (.tmp 159) (.tmp 161) 114 rfl rfl rfl hr3 ?_)
                          go_roundw
                          case rel => exact ⟨m, _, hmn, rfl, HN.out⟩
                          case measure => simp [intOf]; omega
                        | false =>
                          have hk0 : kd = 0 := by rw [Hkd.out, kindAt_full, hsg]; rfl
                          have HErr : Hid (lexL 0 l = .error (6, k)) := Lib.hid (bad_stop HI.out.same Hd.out Hbl.out (by
                            have := Hz.out
                            unfold zi at this
                            omega) Hns.out Hnd.out Hna.out hsg)
                          have heq : ((kd : Int) == 0) = true := by rw [hk0]; rfl
                          clear hk0 hsg
                          go_wp2
                          go_ret3
                          exact ⟨_, _, _, rfl, .inr ⟨6, k, HErr.out, by omega, by rw [H.out.len]; omega, rfl, rfl, rfl⟩, HI.out.below.trans (HBox.out.below.mono HI.out.below.size)⟩
                · have hk1i : ¬ (k : Int) + 1 < (n : Int) := by omega
                  have Hna : Hid (¬ (x.toNat = 45 ∧ ((l.drop (k + 1)).head?.map UInt8.toNat) = some 62)) := Lib.hid (by
                    rintro ⟨_, e⟩
                    rw [List.drop_of_length_le (by rw [H.out.len]; omega)] at e
                    simp at e)
                  have h3t : (z == 45) = true := by simpa using h3
                  clear h3
                  go_wp2_with (first | (go_at_call 88; refine (rsmall_any _ _).mono ?_; rintro e w' ⟨rfl, rfl⟩) | (go_at_call 89; refine (rdigit_any _ _).mono ?_; rintro e w' ⟨rfl, rfl⟩))
                  go_loopw [11] (fun t W => ∃ i kd v : Nat, i ≤ 8 ∧ t = .int .i64 i ∧ kd = kindAt x i ∧ v = 0 ∧ BoxT v0 W kd v k) (fun t _ => 8 - (intOf t).toNat)
                  case atStart => exact ⟨0, 0, 0, by omega, rfl, rfl, rfl, ⟨heap_alloc_new v0 _, (Below.refl _ v0).alloc (Nat.le_refl _) _⟩⟩
                  case round =>
                    obtain ⟨i, kd, v, hi8, rfl, hkd, hv0, hbox⟩ := hrel
                    have HBox := Lib.hid hbox
                    have Hkd := Lib.hid hkd
                    have Hv0 := Lib.hid hv0
                    clear hbox hkd hv0
                    obtain ⟨⟨c0, c1, c2, c3⟩, ⟨f0, f1, f2, f3⟩, hlt5⟩ := new4 HBox.out.blk (Below.refl _ _)
                    by_cases hilt : i < 8
                    · obtain ⟨s, hs⟩ : ∃ s, signsL[i]? = some s := ⟨_, List.getElem?_eq_getElem (show i < signsL.length from hilt)⟩
                      have hix := sign_index i s hs wr
                      have hks := kindAt_succ x i s hs
                      have Hks := Lib.hid hks
                      have hii : (i : Int) < 8 := by omega
                      clear hs hks
                      by_cases hsz : (s : Int) = z
                      · have hbe : ((s : Int) == z) = true := by simpa using hsz
                        have HK : Hid (kindAt x (i + 1) = 3) := Lib.hid (by rw [Hks.out, if_pos]; have := Hz.out; unfold zi at this; omega)
                        have HB3 := Lib.hid (HBox.out.kind 3)
                        clear hsz
                        go_wp2
                        go_roundw
                        case rel => exact ⟨i + 1, 3, v, by omega, by go_num, HK.out.symm, Hv0.out, HB3.out⟩
                        case measure => simp [intOf]; omega
                      · have hbe : ((s : Int) == z) = false := by simpa using hsz
                        have HK : Hid (kindAt x (i + 1) = kindAt x i) := Lib.hid (by rw [Hks.out, if_neg]; have := Hz.out; unfold zi at this; omega)
                        clear hsz
                        go_wp2
                        go_roundw
                        case rel => exact ⟨i + 1, kd, v, by omega, by go_num, by rw [HK.out]; exact Hkd.out, Hv0.out, HBox.out⟩
                        case measure => simp [intOf]; omega
                    · obtain rfl : 8 = i := by omega
                      cases hsg : isSign x with
                      | true =>
                        have Hsg := Lib.hid hsg
                        have hk3 : kd = 3 := by rw [Hkd.out, kindAt_full, hsg]; rfl
                        have hne : ((kd : Int) == 0) = false := by rw [hk3]; rfl
                        obtain ⟨m, hm⟩ : ∃ m : Nat, m = k + 1 := ⟨_, rfl⟩
                        have hkm : k < m := by omega
                        have hmn : m ≤ n := by omega
                        have HE : Hid (lexL 0 l = pre (ts ++ [⟨kd, (l.drop k).take (m - k), v, k⟩]) (lexL m (l.drop m))) := Lib.hid (by
                          rw [hk3, Hv0.out, hm]
                          exact sign_stop HI.out.same Hd.out Hsg.out)
                        have hmi : (k : Int) + 1 = (m : Int) := by omega
                        clear hsg hk3 hm c0 c1 c2 c3 f0 f1 f2 f3 hlt5
                        obtain ⟨⟨c0, c1, c2, c3⟩, ⟨f0, f1, f2, f3⟩, hlt5⟩ := new4 HBox.out.blk (Below.refl _ _)
                        go_upto_region 36 with (fail)
                        clear c0 c1 c2 c3 f0 f1 f2 f3 hlt5
                        obtain ⟨⟨c0, c1, c2, c3⟩, ⟨f0, f1, f2, f3⟩, hlt5⟩ := new4 HBox.out.blk (Below.refl _ _)
                        have hstr := (((HI.out.bytes.below HBox.out.below).drop k (by omega)).take (m - k) (by omega)).str (c - k)
                        obtain ⟨sv, hsv⟩ : ∃ sv, sv = bs ((l.drop k).take (m - k)) := ⟨_, rfl⟩
                        rw [← hsv] at hstr
                        have hb2 : Below v0.heap.size v0 (wr.setCell ⟨v0.heap.size, 1, none⟩ (.string sv)) := HBox.out.below.setCell (Nat.le_refl _) _
                        have hfew := HI.out.few
                        obtain ⟨v3, w3, hr3, ho3, hk3⟩ := run_push_rtok 114 ⟨kd, (l.drop k).take (m - k), v, k⟩ (own_moves HI.out.row hb2) (by omega) (by have := HI.out.below.size; have := hb2.size; omega)
                        have HN := Lib.hid (HI.out.next hb2 ho3 hk3 HE.out hkm H.out)
                        simp only [← hsv, Go.Deep.nblk_setCell] at hr3
                        obtain ⟨av, cv, hv⟩ := own_form HI.out.row
                        subst hv
                        have hkc : ¬ c = k := by omega
                        have hkc2 : k < c := by omega
                        have hmc : m ≤ c := by omega
                        clear hb2 ho3 hk3 hsv
                        go_wp2_with (at_builtin; refine wpList_append_eq rfl (.tmp 159) (.tmp 161) 114 rfl rfl rfl hr3 ?_)
                        go_roundw
                        case rel => exact ⟨m, _, hmn, rfl, HN.out⟩
                        case measure => simp [intOf]; omega
                      | false =>
                        have hk0 : kd = 0 := by rw [Hkd.out, kindAt_full, hsg]; rfl
                        have HErr : Hid (lexL 0 l = .error (6, k)) := Lib.hid (bad_stop HI.out.same Hd.out Hbl.out (by
                          have := Hz.out
                          unfold zi at this
                          omega) Hns.out Hnd.out Hna.out hsg)
                        have heq : ((kd : Int) == 0) = true := by rw [hk0]; rfl
                        clear hk0 hsg
                        go_wp2
                        go_ret3
                        exact ⟨_, _, _, rfl, .inr ⟨6, k, HErr.out, by omega, by rw [H.out.len]; omega, rfl, rfl, rfl⟩, HI.out.below.trans (HBox.out.below.mono HI.out.below.size)⟩
              · have h3b : (z == 45) = false := by simpa using h3
                have Hna : Hid (¬ (x.toNat = 45 ∧ ((l.drop (k + 1)).head?.map UInt8.toNat) = some 62)) := Lib.hid (by
                  rintro ⟨e, _⟩
                  have := Hz.out
                  unfold zi at this
                  omega)
                go_wp2_with (first | (go_at_call 88; refine (rsmall_any _ _).mono ?_; rintro e w' ⟨rfl, rfl⟩) | (go_at_call 89; refine (rdigit_any _ _).mono ?_; rintro e w' ⟨rfl, rfl⟩))
                go_loopw [11] (fun t W => ∃ i kd v : Nat, i ≤ 8 ∧ t = .int .i64 i ∧ kd = kindAt x i ∧ v = 0 ∧ BoxT v0 W kd v k) (fun t _ => 8 - (intOf t).toNat)
                case atStart => exact ⟨0, 0, 0, by omega, rfl, rfl, rfl, ⟨heap_alloc_new v0 _, (Below.refl _ v0).alloc (Nat.le_refl _) _⟩⟩
                case round =>
                  obtain ⟨i, kd, v, hi8, rfl, hkd, hv0, hbox⟩ := hrel
                  have HBox := Lib.hid hbox
                  have Hkd := Lib.hid hkd
                  have Hv0 := Lib.hid hv0
                  clear hbox hkd hv0
                  obtain ⟨⟨c0, c1, c2, c3⟩, ⟨f0, f1, f2, f3⟩, hlt5⟩ := new4 HBox.out.blk (Below.refl _ _)
                  by_cases hilt : i < 8
                  · obtain ⟨s, hs⟩ : ∃ s, signsL[i]? = some s := ⟨_, List.getElem?_eq_getElem (show i < signsL.length from hilt)⟩
                    have hix := sign_index i s hs wr
                    have hks := kindAt_succ x i s hs
                    have Hks := Lib.hid hks
                    have hii : (i : Int) < 8 := by omega
                    clear hs hks
                    by_cases hsz : (s : Int) = z
                    · have hbe : ((s : Int) == z) = true := by simpa using hsz
                      have HK : Hid (kindAt x (i + 1) = 3) := Lib.hid (by rw [Hks.out, if_pos]; have := Hz.out; unfold zi at this; omega)
                      have HB3 := Lib.hid (HBox.out.kind 3)
                      clear hsz
                      go_wp2
                      go_roundw
                      case rel => exact ⟨i + 1, 3, v, by omega, by go_num, HK.out.symm, Hv0.out, HB3.out⟩
                      case measure => simp [intOf]; omega
                    · have hbe : ((s : Int) == z) = false := by simpa using hsz
                      have HK : Hid (kindAt x (i + 1) = kindAt x i) := Lib.hid (by rw [Hks.out, if_neg]; have := Hz.out; unfold zi at this; omega)
                      clear hsz
                      go_wp2
                      go_roundw
                      case rel => exact ⟨i + 1, kd, v, by omega, by go_num, by rw [HK.out]; exact Hkd.out, Hv0.out, HBox.out⟩
                      case measure => simp [intOf]; omega
                  · obtain rfl : 8 = i := by omega
                    cases hsg : isSign x with
                    | true =>
                      have Hsg := Lib.hid hsg
                      have hk3 : kd = 3 := by rw [Hkd.out, kindAt_full, hsg]; rfl
                      have hne : ((kd : Int) == 0) = false := by rw [hk3]; rfl
                      obtain ⟨m, hm⟩ : ∃ m : Nat, m = k + 1 := ⟨_, rfl⟩
                      have hkm : k < m := by omega
                      have hmn : m ≤ n := by omega
                      have HE : Hid (lexL 0 l = pre (ts ++ [⟨kd, (l.drop k).take (m - k), v, k⟩]) (lexL m (l.drop m))) := Lib.hid (by
                        rw [hk3, Hv0.out, hm]
                        exact sign_stop HI.out.same Hd.out Hsg.out)
                      have hmi : (k : Int) + 1 = (m : Int) := by omega
                      clear hsg hk3 hm c0 c1 c2 c3 f0 f1 f2 f3 hlt5
                      obtain ⟨⟨c0, c1, c2, c3⟩, ⟨f0, f1, f2, f3⟩, hlt5⟩ := new4 HBox.out.blk (Below.refl _ _)
                      go_upto_region 36 with (fail)
                      clear c0 c1 c2 c3 f0 f1 f2 f3 hlt5
                      obtain ⟨⟨c0, c1, c2, c3⟩, ⟨f0, f1, f2, f3⟩, hlt5⟩ := new4 HBox.out.blk (Below.refl _ _)
                      have hstr := (((HI.out.bytes.below HBox.out.below).drop k (by omega)).take (m - k) (by omega)).str (c - k)
                      obtain ⟨sv, hsv⟩ : ∃ sv, sv = bs ((l.drop k).take (m - k)) := ⟨_, rfl⟩
                      rw [← hsv] at hstr
                      have hb2 : Below v0.heap.size v0 (wr.setCell ⟨v0.heap.size, 1, none⟩ (.string sv)) := HBox.out.below.setCell (Nat.le_refl _) _
                      have hfew := HI.out.few
                      obtain ⟨v3, w3, hr3, ho3, hk3⟩ := run_push_rtok 114 ⟨kd, (l.drop k).take (m - k), v, k⟩ (own_moves HI.out.row hb2) (by omega) (by have := HI.out.below.size; have := hb2.size; omega)
                      have HN := Lib.hid (HI.out.next hb2 ho3 hk3 HE.out hkm H.out)
                      simp only [← hsv, Go.Deep.nblk_setCell] at hr3
                      obtain ⟨av, cv, hv⟩ := own_form HI.out.row
                      subst hv
                      have hkc : ¬ c = k := by omega
                      have hkc2 : k < c := by omega
                      have hmc : m ≤ c := by omega
                      clear hb2 ho3 hk3 hsv
                      go_wp2_with (at_builtin; refine wpList_append_eq rfl (.tmp 159) (.tmp 161) 114 rfl rfl rfl hr3 ?_)
                      go_roundw
                      case rel => exact ⟨m, _, hmn, rfl, HN.out⟩
                      case measure => simp [intOf]; omega
                    | false =>
                      have hk0 : kd = 0 := by rw [Hkd.out, kindAt_full, hsg]; rfl
                      have HErr : Hid (lexL 0 l = .error (6, k)) := Lib.hid (bad_stop HI.out.same Hd.out Hbl.out (by
                        have := Hz.out
                        unfold zi at this
                        omega) Hns.out Hnd.out Hna.out hsg)
                      have heq : ((kd : Int) == 0) = true := by rw [hk0]; rfl
                      clear hk0 hsg
                      go_wp2
                      go_ret3
                      exact ⟨_, _, _, rfl, .inr ⟨6, k, HErr.out, by omega, by rw [H.out.len]; omega, rfl, rfl, rfl⟩, HI.out.below.trans (HBox.out.below.mono HI.out.below.size)⟩
    · obtain rfl : n = k := by omega
      have hge : ¬ (n : Int) < (n : Int) := by omega
      have hdn : l.drop n = [] := List.drop_of_length_le (by rw [H.out.len]; omega)
      have HE : Hid (lexL 0 l = .ok (ts ++ [⟨0, [], 0, n⟩])) := Lib.hid (by rw [HI.out.same, hdn, lex_nil]; rfl)
      have hfew := HI.out.few
      obtain ⟨av, cv, hv⟩ := own_form HI.out.row
      subst hv
      obtain ⟨v3, w3, hr3, ho3, hk3⟩ := run_push_rtok 114 ⟨0, [], 0, n⟩ HI.out.row (by omega) HI.out.below.size
      have hr4 : (Builtin.append_ #[114, 114] 114 #[.slice av ts.length cv, .slice (some ⟨v0.heap.size, 0, none⟩) 1 1]).run Try.prog (v0.alloc (.cells #[.int .u8 0, .string { data := #[] }, .int .i64 0, .int .i64 (n : Int)] 118)) = .ok v3 w3 := hr3
      have hown : ∀ j, (Value.slice av ts.length cv).ownBlock = some j → w.heap.size ≤ j := fun j hj => (HI.out.row.lt j hj).1
      have Hbw := Lib.hid (HI.out.below.trans (hk3.below hown HI.out.below.size))
      have Ho3 := Lib.hid ho3
      clear hr3 ho3 hk3 hown hdn
      go_wp2_with (at_builtin; refine wpList_append_eq rfl (.tmp 164) (.tmp 168) 114 rfl rfl rfl hr4 ?_)
      go_ret3
      exact ⟨_, _, _, rfl, .inl ⟨_, HE.out, Ho3.out, rfl, rfl⟩, Hbw.out⟩

end

end Go.Proofs.Ytpfdmmidomofdaa
