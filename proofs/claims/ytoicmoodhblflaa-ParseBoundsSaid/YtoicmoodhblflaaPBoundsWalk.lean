/-
  The walk of the law ParseBounds: for all its inputs it returns true.
  Conditions: none.
-/
import Derived.Test.YtoicmoodhblflaaPUse
import Derived.Test.YtoicmoodhblflaaConv2
namespace Go.Proofs.Ytoicmoodhblflaa
open Go.RowKit
set_option linter.unusedVariables false

/-- is it a net? which one? -/
def okF (l : List UInt8) : Bool := match parseF l with | .ok _ => true | .error _ => false
def netOf (l : List UInt8) : Nt := match parseF l with | .ok n => n | .error _ => ⟨[], []⟩
theorem parse_ok (l : List UInt8) (h : okF l = true) : parseL l = .ok (netOf l) := by
  rw [parseF_eq]
  unfold okF at h
  unfold netOf
  cases e : parseF l with
  | ok n => rfl
  | error x => rw [e] at h; cases h

/-- a piece of the text, and so many of them -/
def piece (P Q : List UInt8) (k : Nat) : List UInt8 := P ++ [UInt8.ofNat (97 + k % 26), UInt8.ofNat (97 + k / 26)] ++ Q
def pieces (P Q : List UInt8) (k : Nat) : List UInt8 := (List.range k).flatMap (piece P Q)
theorem pieces_succ (P Q : List UInt8) (k : Nat) : pieces P Q (k + 1) = pieces P Q k ++ piece P Q k := by simp [pieces, List.range_succ]
theorem pieces_len (P Q : List UInt8) (k : Nat) : (pieces P Q k).length = k * (P.length + 2 + Q.length) := by
  induction k with
  | zero => simp [pieces]
  | succ k ih => rw [pieces_succ, List.length_append, ih, Nat.succ_mul]; simp [piece]; omega
/-- places, and arcs -/
def pieceS (k : Nat) : List UInt8 := [112, 108, 97, 99, 101, 32, 113] ++ [UInt8.ofNat (97 + k)] ++ [59]
def piecesS (k : Nat) : List UInt8 := (List.range k).flatMap pieceS
def pieceT (k : Nat) : List UInt8 := (if 0 < k then [44] else []) ++ ([113] ++ [UInt8.ofNat (97 + k)])
def piecesT (k : Nat) : List UInt8 := [116, 114, 97, 110, 115, 32, 116, 58, 32, 45, 62, 32] ++ (List.range k).flatMap pieceT
theorem piecesS_succ (k : Nat) : piecesS (k + 1) = piecesS k ++ pieceS k := by simp [piecesS, List.range_succ]
theorem piecesT_succ (k : Nat) : piecesT (k + 1) = piecesT k ++ pieceT k := by simp [piecesT, List.range_succ]
theorem piecesS_len (k : Nat) : (piecesS k).length = k * 9 := by
  induction k with
  | zero => simp [piecesS]
  | succ k ih => rw [piecesS_succ, List.length_append, ih]; simp [pieceS]; omega
theorem piecesT_len (k : Nat) : (piecesT k).length ≤ 12 + k * 3 := by
  induction k with
  | zero => simp [piecesT]
  | succ k ih =>
    rw [piecesT_succ, List.length_append]
    have : (pieceT k).length ≤ 3 := by unfold pieceT; split <;> simp
    omega

set_option maxRecDepth 100000 in
set_option maxHeartbeats 2000000 in
theorem pb_00 (a : Nat) (ha : a < 256) (hk : (a : Int) % 3 = 0) (w : World) : Calls Try.prog 10 #[.int .u8 (a : Int), .bool false] w fun e w' => e = .returned (.bool true) ∧ Below w.heap.size w w' := by
  go_enter Try.func10, Try.ntmps10
  go_wp2
  go_loopw [6, 7] (fun s i wr => ∃ k : Nat, k ≤ 32 ∧ i = .int .i64 k ∧ Below w.heap.size w wr ∧ ∃ S, s = .string S ∧ Hid (S = bs (pieces [112, 108, 97, 99, 101, 32, 113] [59] k))) (fun _ i _ => 32 - (intOf i).toNat)
  case atStart => exact ⟨0, by omega, rfl, Below.refl _ _, _, rfl, Lib.hid rfl⟩
  case round =>
    obtain ⟨k, hk', rfl, hb, S, rfl, HS⟩ := hrel
    have hSs : S.size = k * 10 := by rw [HS.out, bs_size, pieces_len]; rfl
    by_cases hlt : k < 32
    · have hlti : (k : Int) < 32 := by omega
      obtain ⟨m, hm⟩ : ∃ m, m = k % 26 := ⟨_, rfl⟩
      obtain ⟨d, hd'⟩ : ∃ d, d = k / 26 := ⟨_, rfl⟩
      have hmi : (k : Int) % 26 = (m : Int) := by omega
      have hdi : (k : Int) / 26 = (d : Int) := by omega
      have hm8 : IntKind.u8.wrap (97 + (m : Int)) = 97 + (m : Int) := u8_in _ (by omega) (by omega)
      have hd8 : IntKind.u8.wrap (97 + (d : Int)) = 97 + (d : Int) := u8_in _ (by omega) (by omega)
      have hcv := run_conv2 wr m d (by omega) (by omega)
      obtain ⟨sv, hsv⟩ : ∃ sv, sv = bs [UInt8.ofNat (97 + m), UInt8.ofNat (97 + d)] := ⟨_, rfl⟩
      rw [← hsv] at hcv
      obtain ⟨z1, hz1⟩ : ∃ z, z = bs ([112, 108, 97, 99, 101, 32, 113] ++ [UInt8.ofNat (97 + m), UInt8.ofNat (97 + d)]) := ⟨_, rfl⟩
      obtain ⟨z2, hz2⟩ : ∃ z, z = bs ([112, 108, 97, 99, 101, 32, 113] ++ [UInt8.ofNat (97 + m), UInt8.ofNat (97 + d)] ++ [59]) := ⟨_, rfl⟩
      obtain ⟨S2, hS2⟩ : ∃ z, z = bs (pieces [112, 108, 97, 99, 101, 32, 113] [59] (k + 1)) := ⟨_, rfl⟩
      have q1 : ({ data := #[112, 108, 97, 99, 101, 32, 113] } : ByteArray) ++ sv = z1 := by rw [hz1, hsv, ← bs_cat]; rfl
      have q2 : z1 ++ { data := #[59] } = z2 := by rw [hz1, hz2, ← bs_cat]; rfl
      have q3 : S ++ z2 = S2 := by rw [HS.out, hz2, hS2, bs_cat, pieces_succ]; unfold piece; rw [← hm, ← hd']
      have s0 : sv.size = 2 := by rw [hsv]; rfl
      have s1 : z1.size = 9 := by rw [hz1, bs_size]; rfl
      have s2 : z2.size = 10 := by rw [hz2, bs_size]; rfl
      have HS2 := Lib.hid hS2
      have Hb := Lib.hid (hb.alloc hb.size (.cells #[.int .u8 (97 + (m : Int)), .int .u8 (97 + (d : Int))] 5))
      clear hb hm hd' hsv hz1 hz2 hS2
      go_wp2
      go_roundw
      case rel => exact ⟨k + 1, by omega, by go_num, Hb.out, S2, rfl, HS2⟩
      case measure => simp [intOf]; omega
    · have hge : ¬ (k : Int) < 32 := by omega
      obtain rfl : k = 32 := by omega
      obtain ⟨bb, cc, w5, hrb, hcc, hB, b5⟩ := run_bytes_of wr S
      have hSs2 : S.size = 320 := by omega
      have hSd : S.data.toList = pieces [112, 108, 97, 99, 101, 32, 113] [59] 32 := by rw [HS.out, bs_data]
      rw [hSs2, hSd] at hB
      rw [hSs2] at hrb hcc
      have hnet := net_ok hB cc hcc (by decide) (parse_ok _ (by kernel_rfl))
      have Hb5 := Lib.hid (hb.trans (b5.mono hb.size))
      clear hB hb b5 hcc hSd hSs2 hSs HS
      go_wp2_with fail
      refine hnet.mono ?_
      rintro e w6 ⟨a1, n1, c1, a2, n2, c2, rfl, u1, u2, u3, hb6⟩
      clear u1 u2 u3
      have HB6 := Lib.hid (Hb5.out.trans (hb6.mono Hb5.out.size))
      have ha := awake6 ((w6.alloc (.cells #[.slice a1 n1 c1, .slice a2 n2 c2] 30)).alloc (.cells #[.int .i64 0, .int .i64 0, .int .i64 0, .int .i64 0] 51))
      have hR := Res.start w6 (.slice a1 n1 c1) (.slice a2 n2 c2)
      clear hb6 hnet hrb
      go_wp2_with fail
      refine ha.mono ?_
      rintro e w7 ⟨rfl, hb7⟩
      obtain ⟨r0, r1, r2, r3, r4, r5, r6⟩ := hR.up hb7
      have HB7 := Lib.hid (((HB6.out.alloc HB6.out.size _).alloc (by have := HB6.out.size; simp; omega) _).trans (hb7.mono (by have := HB6.out.size; simp; omega)))
      clear hb7 ha hR
      go_wp2
      go_ret
      exact ⟨rfl, HB7.out⟩
set_option maxRecDepth 100000 in
set_option maxHeartbeats 2000000 in
theorem pb_01 (a : Nat) (ha : a < 256) (hk : (a : Int) % 3 = 0) (w : World) : Calls Try.prog 10 #[.int .u8 (a : Int), .bool true] w fun e w' => e = .returned (.bool true) ∧ Below w.heap.size w w' := by
  go_enter Try.func10, Try.ntmps10
  go_wp2
  go_loopw [6, 7] (fun s i wr => ∃ k : Nat, k ≤ 33 ∧ i = .int .i64 k ∧ Below w.heap.size w wr ∧ ∃ S, s = .string S ∧ Hid (S = bs (pieces [112, 108, 97, 99, 101, 32, 113] [59] k))) (fun _ i _ => 33 - (intOf i).toNat)
  case atStart => exact ⟨0, by omega, rfl, Below.refl _ _, _, rfl, Lib.hid rfl⟩
  case round =>
    obtain ⟨k, hk', rfl, hb, S, rfl, HS⟩ := hrel
    have hSs : S.size = k * 10 := by rw [HS.out, bs_size, pieces_len]; rfl
    by_cases hlt : k < 33
    · have hlti : (k : Int) < 33 := by omega
      obtain ⟨m, hm⟩ : ∃ m, m = k % 26 := ⟨_, rfl⟩
      obtain ⟨d, hd'⟩ : ∃ d, d = k / 26 := ⟨_, rfl⟩
      have hmi : (k : Int) % 26 = (m : Int) := by omega
      have hdi : (k : Int) / 26 = (d : Int) := by omega
      have hm8 : IntKind.u8.wrap (97 + (m : Int)) = 97 + (m : Int) := u8_in _ (by omega) (by omega)
      have hd8 : IntKind.u8.wrap (97 + (d : Int)) = 97 + (d : Int) := u8_in _ (by omega) (by omega)
      have hcv := run_conv2 wr m d (by omega) (by omega)
      obtain ⟨sv, hsv⟩ : ∃ sv, sv = bs [UInt8.ofNat (97 + m), UInt8.ofNat (97 + d)] := ⟨_, rfl⟩
      rw [← hsv] at hcv
      obtain ⟨z1, hz1⟩ : ∃ z, z = bs ([112, 108, 97, 99, 101, 32, 113] ++ [UInt8.ofNat (97 + m), UInt8.ofNat (97 + d)]) := ⟨_, rfl⟩
      obtain ⟨z2, hz2⟩ : ∃ z, z = bs ([112, 108, 97, 99, 101, 32, 113] ++ [UInt8.ofNat (97 + m), UInt8.ofNat (97 + d)] ++ [59]) := ⟨_, rfl⟩
      obtain ⟨S2, hS2⟩ : ∃ z, z = bs (pieces [112, 108, 97, 99, 101, 32, 113] [59] (k + 1)) := ⟨_, rfl⟩
      have q1 : ({ data := #[112, 108, 97, 99, 101, 32, 113] } : ByteArray) ++ sv = z1 := by rw [hz1, hsv, ← bs_cat]; rfl
      have q2 : z1 ++ { data := #[59] } = z2 := by rw [hz1, hz2, ← bs_cat]; rfl
      have q3 : S ++ z2 = S2 := by rw [HS.out, hz2, hS2, bs_cat, pieces_succ]; unfold piece; rw [← hm, ← hd']
      have s0 : sv.size = 2 := by rw [hsv]; rfl
      have s1 : z1.size = 9 := by rw [hz1, bs_size]; rfl
      have s2 : z2.size = 10 := by rw [hz2, bs_size]; rfl
      have HS2 := Lib.hid hS2
      have Hb := Lib.hid (hb.alloc hb.size (.cells #[.int .u8 (97 + (m : Int)), .int .u8 (97 + (d : Int))] 5))
      clear hb hm hd' hsv hz1 hz2 hS2
      go_wp2
      go_roundw
      case rel => exact ⟨k + 1, by omega, by go_num, Hb.out, S2, rfl, HS2⟩
      case measure => simp [intOf]; omega
    · have hge : ¬ (k : Int) < 33 := by omega
      obtain rfl : k = 33 := by omega
      obtain ⟨bb, cc, w5, hrb, hcc, hB, b5⟩ := run_bytes_of wr S
      have hSs2 : S.size = 330 := by omega
      have hSd : S.data.toList = pieces [112, 108, 97, 99, 101, 32, 113] [59] 33 := by rw [HS.out, bs_data]
      rw [hSs2, hSd] at hB
      rw [hSs2] at hrb hcc
      have hnet := net_bad (er := 5) (p := 326) hB cc hcc (by decide) (by rw [parseF_eq]; kernel_rfl)
      have Hb5 := Lib.hid (hb.trans (b5.mono hb.size))
      clear hB hb b5 hcc hSd hSs2 hSs HS
      go_wp2_with fail
      refine hnet.mono ?_
      rintro e w6 ⟨rfl, _, hb6⟩
      have HB6 := Lib.hid (Hb5.out.trans (hb6.mono Hb5.out.size))
      unfold faultV
      generalize placeL _ = pq
      obtain ⟨q1, q2⟩ := pq
      simp only
      have ha := awake6 ((w6.alloc (.cells #[.slice none 0 0, .slice none 0 0] 30)).alloc (.cells #[.int .i64 5, .int .i64 ((326 : Nat) : Int), .int .i64 (q1 : Int), .int .i64 (q2 : Int)] 51))
      clear hb6 hnet hrb
      go_wp2_with fail
      refine ha.mono ?_
      rintro e w7 ⟨rfl, hb7⟩
      have c0 : w7.cell? ⟨w6.heap.size + 1, 0, none⟩ = some (.int .i64 5) := (below_cells hb7 _ _ (by simp)).trans (by go_simp)
      have hlt7 : w6.heap.size + 1 < w7.heap.size := by have := hb7.size; simp at this; omega
      have HB7 := Lib.hid (((HB6.out.alloc HB6.out.size _).alloc (by have := HB6.out.size; simp; omega) _).trans (hb7.mono (by have := HB6.out.size; simp; omega)))
      clear hb7 ha
      go_wp2
      go_ret
      exact ⟨rfl, HB7.out⟩
set_option maxRecDepth 100000 in
set_option maxHeartbeats 2000000 in
theorem pb_10 (a : Nat) (ha : a < 256) (hk : (a : Int) % 3 = 1) (w : World) : Calls Try.prog 10 #[.int .u8 (a : Int), .bool false] w fun e w' => e = .returned (.bool true) ∧ Below w.heap.size w w' := by
  go_enter Try.func10, Try.ntmps10
  go_wp2
  go_loopw [6, 8] (fun s i wr => ∃ k : Nat, k ≤ 32 ∧ i = .int .i64 k ∧ Below w.heap.size w wr ∧ ∃ S, s = .string S ∧ Hid (S = bs (pieces [116, 114, 97, 110, 115, 32, 113] [58, 32, 45, 62, 32, 59] k))) (fun _ i _ => 32 - (intOf i).toNat)
  case atStart => exact ⟨0, by omega, rfl, Below.refl _ _, _, rfl, Lib.hid rfl⟩
  case round =>
    obtain ⟨k, hk', rfl, hb, S, rfl, HS⟩ := hrel
    have hSs : S.size = k * 15 := by rw [HS.out, bs_size, pieces_len]; rfl
    by_cases hlt : k < 32
    · have hlti : (k : Int) < 32 := by omega
      obtain ⟨m, hm⟩ : ∃ m, m = k % 26 := ⟨_, rfl⟩
      obtain ⟨d, hd'⟩ : ∃ d, d = k / 26 := ⟨_, rfl⟩
      have hmi : (k : Int) % 26 = (m : Int) := by omega
      have hdi : (k : Int) / 26 = (d : Int) := by omega
      have hm8 : IntKind.u8.wrap (97 + (m : Int)) = 97 + (m : Int) := u8_in _ (by omega) (by omega)
      have hd8 : IntKind.u8.wrap (97 + (d : Int)) = 97 + (d : Int) := u8_in _ (by omega) (by omega)
      have hcv := run_conv2 wr m d (by omega) (by omega)
      obtain ⟨sv, hsv⟩ : ∃ sv, sv = bs [UInt8.ofNat (97 + m), UInt8.ofNat (97 + d)] := ⟨_, rfl⟩
      rw [← hsv] at hcv
      obtain ⟨z1, hz1⟩ : ∃ z, z = bs ([116, 114, 97, 110, 115, 32, 113] ++ [UInt8.ofNat (97 + m), UInt8.ofNat (97 + d)]) := ⟨_, rfl⟩
      obtain ⟨z2, hz2⟩ : ∃ z, z = bs ([116, 114, 97, 110, 115, 32, 113] ++ [UInt8.ofNat (97 + m), UInt8.ofNat (97 + d)] ++ [58, 32, 45, 62, 32, 59]) := ⟨_, rfl⟩
      obtain ⟨S2, hS2⟩ : ∃ z, z = bs (pieces [116, 114, 97, 110, 115, 32, 113] [58, 32, 45, 62, 32, 59] (k + 1)) := ⟨_, rfl⟩
      have q1 : ({ data := #[116, 114, 97, 110, 115, 32, 113] } : ByteArray) ++ sv = z1 := by rw [hz1, hsv, ← bs_cat]; rfl
      have q2 : z1 ++ { data := #[58, 32, 45, 62, 32, 59] } = z2 := by rw [hz1, hz2, ← bs_cat]; rfl
      have q3 : S ++ z2 = S2 := by rw [HS.out, hz2, hS2, bs_cat, pieces_succ]; unfold piece; rw [← hm, ← hd']
      have s0 : sv.size = 2 := by rw [hsv]; rfl
      have s1 : z1.size = 9 := by rw [hz1, bs_size]; rfl
      have s2 : z2.size = 15 := by rw [hz2, bs_size]; rfl
      have HS2 := Lib.hid hS2
      have Hb := Lib.hid (hb.alloc hb.size (.cells #[.int .u8 (97 + (m : Int)), .int .u8 (97 + (d : Int))] 5))
      clear hb hm hd' hsv hz1 hz2 hS2
      go_wp2
      go_roundw
      case rel => exact ⟨k + 1, by omega, by go_num, Hb.out, S2, rfl, HS2⟩
      case measure => simp [intOf]; omega
    · have hge : ¬ (k : Int) < 32 := by omega
      obtain rfl : k = 32 := by omega
      obtain ⟨bb, cc, w5, hrb, hcc, hB, b5⟩ := run_bytes_of wr S
      have hSs2 : S.size = 480 := by omega
      have hSd : S.data.toList = pieces [116, 114, 97, 110, 115, 32, 113] [58, 32, 45, 62, 32, 59] 32 := by rw [HS.out, bs_data]
      rw [hSs2, hSd] at hB
      rw [hSs2] at hrb hcc
      have hnet := net_ok hB cc hcc (by decide) (parse_ok _ (by kernel_rfl))
      have Hb5 := Lib.hid (hb.trans (b5.mono hb.size))
      clear hB hb b5 hcc hSd hSs2 hSs HS
      go_wp2_with fail
      refine hnet.mono ?_
      rintro e w6 ⟨a1, n1, c1, a2, n2, c2, rfl, u1, u2, u3, hb6⟩
      clear u1 u2 u3
      have HB6 := Lib.hid (Hb5.out.trans (hb6.mono Hb5.out.size))
      have ha := awake6 ((w6.alloc (.cells #[.slice a1 n1 c1, .slice a2 n2 c2] 30)).alloc (.cells #[.int .i64 0, .int .i64 0, .int .i64 0, .int .i64 0] 51))
      have hR := Res.start w6 (.slice a1 n1 c1) (.slice a2 n2 c2)
      clear hb6 hnet hrb
      go_wp2_with fail
      refine ha.mono ?_
      rintro e w7 ⟨rfl, hb7⟩
      obtain ⟨r0, r1, r2, r3, r4, r5, r6⟩ := hR.up hb7
      have HB7 := Lib.hid (((HB6.out.alloc HB6.out.size _).alloc (by have := HB6.out.size; simp; omega) _).trans (hb7.mono (by have := HB6.out.size; simp; omega)))
      clear hb7 ha hR
      go_wp2
      go_ret
      exact ⟨rfl, HB7.out⟩
set_option maxRecDepth 100000 in
set_option maxHeartbeats 2000000 in
theorem pb_11 (a : Nat) (ha : a < 256) (hk : (a : Int) % 3 = 1) (w : World) : Calls Try.prog 10 #[.int .u8 (a : Int), .bool true] w fun e w' => e = .returned (.bool true) ∧ Below w.heap.size w w' := by
  go_enter Try.func10, Try.ntmps10
  go_wp2
  go_loopw [6, 8] (fun s i wr => ∃ k : Nat, k ≤ 33 ∧ i = .int .i64 k ∧ Below w.heap.size w wr ∧ ∃ S, s = .string S ∧ Hid (S = bs (pieces [116, 114, 97, 110, 115, 32, 113] [58, 32, 45, 62, 32, 59] k))) (fun _ i _ => 33 - (intOf i).toNat)
  case atStart => exact ⟨0, by omega, rfl, Below.refl _ _, _, rfl, Lib.hid rfl⟩
  case round =>
    obtain ⟨k, hk', rfl, hb, S, rfl, HS⟩ := hrel
    have hSs : S.size = k * 15 := by rw [HS.out, bs_size, pieces_len]; rfl
    by_cases hlt : k < 33
    · have hlti : (k : Int) < 33 := by omega
      obtain ⟨m, hm⟩ : ∃ m, m = k % 26 := ⟨_, rfl⟩
      obtain ⟨d, hd'⟩ : ∃ d, d = k / 26 := ⟨_, rfl⟩
      have hmi : (k : Int) % 26 = (m : Int) := by omega
      have hdi : (k : Int) / 26 = (d : Int) := by omega
      have hm8 : IntKind.u8.wrap (97 + (m : Int)) = 97 + (m : Int) := u8_in _ (by omega) (by omega)
      have hd8 : IntKind.u8.wrap (97 + (d : Int)) = 97 + (d : Int) := u8_in _ (by omega) (by omega)
      have hcv := run_conv2 wr m d (by omega) (by omega)
      obtain ⟨sv, hsv⟩ : ∃ sv, sv = bs [UInt8.ofNat (97 + m), UInt8.ofNat (97 + d)] := ⟨_, rfl⟩
      rw [← hsv] at hcv
      obtain ⟨z1, hz1⟩ : ∃ z, z = bs ([116, 114, 97, 110, 115, 32, 113] ++ [UInt8.ofNat (97 + m), UInt8.ofNat (97 + d)]) := ⟨_, rfl⟩
      obtain ⟨z2, hz2⟩ : ∃ z, z = bs ([116, 114, 97, 110, 115, 32, 113] ++ [UInt8.ofNat (97 + m), UInt8.ofNat (97 + d)] ++ [58, 32, 45, 62, 32, 59]) := ⟨_, rfl⟩
      obtain ⟨S2, hS2⟩ : ∃ z, z = bs (pieces [116, 114, 97, 110, 115, 32, 113] [58, 32, 45, 62, 32, 59] (k + 1)) := ⟨_, rfl⟩
      have q1 : ({ data := #[116, 114, 97, 110, 115, 32, 113] } : ByteArray) ++ sv = z1 := by rw [hz1, hsv, ← bs_cat]; rfl
      have q2 : z1 ++ { data := #[58, 32, 45, 62, 32, 59] } = z2 := by rw [hz1, hz2, ← bs_cat]; rfl
      have q3 : S ++ z2 = S2 := by rw [HS.out, hz2, hS2, bs_cat, pieces_succ]; unfold piece; rw [← hm, ← hd']
      have s0 : sv.size = 2 := by rw [hsv]; rfl
      have s1 : z1.size = 9 := by rw [hz1, bs_size]; rfl
      have s2 : z2.size = 15 := by rw [hz2, bs_size]; rfl
      have HS2 := Lib.hid hS2
      have Hb := Lib.hid (hb.alloc hb.size (.cells #[.int .u8 (97 + (m : Int)), .int .u8 (97 + (d : Int))] 5))
      clear hb hm hd' hsv hz1 hz2 hS2
      go_wp2
      go_roundw
      case rel => exact ⟨k + 1, by omega, by go_num, Hb.out, S2, rfl, HS2⟩
      case measure => simp [intOf]; omega
    · have hge : ¬ (k : Int) < 33 := by omega
      obtain rfl : k = 33 := by omega
      obtain ⟨bb, cc, w5, hrb, hcc, hB, b5⟩ := run_bytes_of wr S
      have hSs2 : S.size = 495 := by omega
      have hSd : S.data.toList = pieces [116, 114, 97, 110, 115, 32, 113] [58, 32, 45, 62, 32, 59] 33 := by rw [HS.out, bs_data]
      rw [hSs2, hSd] at hB
      rw [hSs2] at hrb hcc
      have hnet := net_bad (er := 5) (p := 486) hB cc hcc (by decide) (by rw [parseF_eq]; kernel_rfl)
      have Hb5 := Lib.hid (hb.trans (b5.mono hb.size))
      clear hB hb b5 hcc hSd hSs2 hSs HS
      go_wp2_with fail
      refine hnet.mono ?_
      rintro e w6 ⟨rfl, _, hb6⟩
      have HB6 := Lib.hid (Hb5.out.trans (hb6.mono Hb5.out.size))
      unfold faultV
      generalize placeL _ = pq
      obtain ⟨q1, q2⟩ := pq
      simp only
      have ha := awake6 ((w6.alloc (.cells #[.slice none 0 0, .slice none 0 0] 30)).alloc (.cells #[.int .i64 5, .int .i64 ((486 : Nat) : Int), .int .i64 (q1 : Int), .int .i64 (q2 : Int)] 51))
      clear hb6 hnet hrb
      go_wp2_with fail
      refine ha.mono ?_
      rintro e w7 ⟨rfl, hb7⟩
      have c0 : w7.cell? ⟨w6.heap.size + 1, 0, none⟩ = some (.int .i64 5) := (below_cells hb7 _ _ (by simp)).trans (by go_simp)
      have hlt7 : w6.heap.size + 1 < w7.heap.size := by have := hb7.size; simp at this; omega
      have HB7 := Lib.hid (((HB6.out.alloc HB6.out.size _).alloc (by have := HB6.out.size; simp; omega) _).trans (hb7.mono (by have := HB6.out.size; simp; omega)))
      clear hb7 ha
      go_wp2
      go_ret
      exact ⟨rfl, HB7.out⟩
set_option maxRecDepth 100000 in
set_option maxHeartbeats 2000000 in
theorem pb_20 (a : Nat) (ha : a < 256) (hk : (a : Int) % 3 = 2) (w : World) : Calls Try.prog 10 #[.int .u8 (a : Int), .bool false] w fun e w' => e = .returned (.bool true) ∧ Below w.heap.size w w' := by
  go_enter Try.func10, Try.ntmps10
  go_wp2
  go_loopw [6, 9, 10] (fun s t i wr => ∃ k : Nat, k ≤ 8 ∧ i = .int .i64 k ∧ Below w.heap.size w wr ∧ ∃ S X, s = .string S ∧ t = .string X ∧ Hid (S = bs (piecesS k)) ∧ Hid (X = bs (piecesT k))) (fun _ _ i _ => 8 - (intOf i).toNat)
  case atStart => exact ⟨0, by omega, rfl, Below.refl _ _, _, _, rfl, rfl, Lib.hid rfl, Lib.hid rfl⟩
  case round =>
    obtain ⟨k, hk', rfl, hb, S, X, rfl, rfl, HS, HX⟩ := hrel
    have hSs : S.size = k * 9 := by rw [HS.out, bs_size, piecesS_len]
    have hXs : X.size ≤ 12 + k * 3 := by rw [HX.out, bs_size]; exact piecesT_len k
    by_cases hlt : k < 8
    · have hlti : (k : Int) < 8 := by omega
      have hm8 : IntKind.u8.wrap (97 + (k : Int)) = 97 + (k : Int) := u8_in _ (by omega) (by omega)
      have hcv := run_conv1 wr k 97 (by omega)
      have hcv2 := run_conv1 (wr.alloc (.cells #[.int .u8 (97 + (k : Int))] 5)) k 97 (by omega)
      rw [show ((97 : Nat) : Int) = 97 from rfl] at hcv hcv2
      rw [show (wr.alloc (.cells #[.int .u8 (97 + (k : Int))] 5)).heap.size = wr.heap.size + 1 by simp] at hcv2
      obtain ⟨sv, hsv⟩ : ∃ sv, sv = bs [UInt8.ofNat (97 + k)] := ⟨_, rfl⟩
      rw [← hsv] at hcv hcv2
      obtain ⟨z1, hz1⟩ : ∃ z, z = bs ([112, 108, 97, 99, 101, 32, 113] ++ [UInt8.ofNat (97 + k)]) := ⟨_, rfl⟩
      obtain ⟨z2, hz2⟩ : ∃ z, z = bs ([112, 108, 97, 99, 101, 32, 113] ++ [UInt8.ofNat (97 + k)] ++ [59]) := ⟨_, rfl⟩
      obtain ⟨S2, hS2⟩ : ∃ z, z = bs (piecesS (k + 1)) := ⟨_, rfl⟩
      obtain ⟨z4, hz4⟩ : ∃ z, z = bs ([113] ++ [UInt8.ofNat (97 + k)]) := ⟨_, rfl⟩
      obtain ⟨X2, hX2⟩ : ∃ z, z = bs (piecesT (k + 1)) := ⟨_, rfl⟩
      have q1 : ({ data := #[112, 108, 97, 99, 101, 32, 113] } : ByteArray) ++ sv = z1 := by rw [hz1, hsv, ← bs_cat]; rfl
      have q2 : z1 ++ { data := #[59] } = z2 := by rw [hz1, hz2, ← bs_cat]; rfl
      have q3 : S ++ z2 = S2 := by rw [HS.out, hz2, hS2, bs_cat, piecesS_succ]; rfl
      have q4 : ({ data := #[113] } : ByteArray) ++ sv = z4 := by rw [hz4, hsv, ← bs_cat]; rfl
      have s0 : sv.size = 1 := by rw [hsv]; rfl
      have s1 : z1.size = 8 := by rw [hz1, bs_size]; rfl
      have s2 : z2.size = 9 := by rw [hz2, bs_size]; rfl
      have s4 : z4.size = 2 := by rw [hz4, bs_size]; rfl
      have HS2 := Lib.hid hS2
      have HX2 := Lib.hid hX2
      have Hb := Lib.hid ((hb.alloc hb.size (.cells #[.int .u8 (97 + (k : Int))] 5)).alloc (by have := hb.size; simp; omega) (.cells #[.int .u8 (97 + (k : Int))] 5))
      by_cases h0 : 0 < k
      · have h0i : (0 : Int) < (k : Int) := by omega
        obtain ⟨z5, hz5⟩ : ∃ z, z = bs (piecesT k ++ [44]) := ⟨_, rfl⟩
        have q5 : X ++ { data := #[44] } = z5 := by rw [HX.out, hz5, ← bs_cat]; rfl
        have q6 : z5 ++ z4 = X2 := by rw [hz5, hz4, hX2, bs_cat, piecesT_succ]; unfold pieceT; rw [if_pos h0, List.append_assoc]
        have s5 : z5.size ≤ 13 + k * 3 := by rw [hz5, bs_size, List.length_append]; have := piecesT_len k; simp; omega
        clear hb hsv hz1 hz2 hS2 hz4 hX2 hz5
        go_wp2
        go_roundw
        case rel => exact ⟨k + 1, by omega, by go_num, Hb.out, S2, X2, rfl, rfl, HS2, HX2⟩
        case measure => simp [intOf]; omega
      · have h0i : ¬ (0 : Int) < (k : Int) := by omega
        have q6 : X ++ z4 = X2 := by rw [HX.out, hz4, hX2, bs_cat, piecesT_succ]; unfold pieceT; rw [if_neg h0, List.nil_append]
        clear hb hsv hz1 hz2 hS2 hz4 hX2
        go_wp2
        go_roundw
        case rel => exact ⟨k + 1, by omega, by go_num, Hb.out, S2, X2, rfl, rfl, HS2, HX2⟩
        case measure => simp [intOf]; omega
    · have hge : ¬ (k : Int) < 8 := by omega
      obtain rfl : k = 8 := by omega
      obtain ⟨z5, hz5⟩ : ∃ z, z = bs (piecesT 8 ++ [59]) := ⟨_, rfl⟩
      obtain ⟨S2, hS2⟩ : ∃ z, z = bs (piecesS 8 ++ (piecesT 8 ++ [59])) := ⟨_, rfl⟩
      have q5 : X ++ { data := #[59] } = z5 := by rw [HX.out, hz5, ← bs_cat]; rfl
      have q6 : S ++ z5 = S2 := by rw [HS.out, hz5, hS2, bs_cat]
      have s5 : z5.size = 36 := by rw [hz5, bs_size]; rfl
      obtain ⟨bb, cc, w5, hrb, hcc, hB, b5⟩ := run_bytes_of wr S2
      have hSs2 : S2.size = 108 := by rw [hS2, bs_size]; rfl
      have hSd : S2.data.toList = piecesS 8 ++ (piecesT 8 ++ [59]) := by rw [hS2, bs_data]
      rw [hSs2, hSd] at hB
      rw [hSs2] at hrb hcc
      have hnet := net_ok hB cc hcc (by decide) (parse_ok _ (by kernel_rfl))
      have Hb5 := Lib.hid (hb.trans (b5.mono hb.size))
      clear hB hb b5 hcc hSd HS HX hz5 hS2
      go_wp2_with fail
      refine hnet.mono ?_
      rintro e w6 ⟨a1, n1, c1, a2, n2, c2, rfl, u1, u2, u3, hb6⟩
      clear u1 u2 u3
      have HB6 := Lib.hid (Hb5.out.trans (hb6.mono Hb5.out.size))
      have ha := awake6 ((w6.alloc (.cells #[.slice a1 n1 c1, .slice a2 n2 c2] 30)).alloc (.cells #[.int .i64 0, .int .i64 0, .int .i64 0, .int .i64 0] 51))
      have hR := Res.start w6 (.slice a1 n1 c1) (.slice a2 n2 c2)
      clear hb6 hnet hrb
      go_wp2_with fail
      refine ha.mono ?_
      rintro e w7 ⟨rfl, hb7⟩
      obtain ⟨r0, r1, r2, r3, r4, r5, r6⟩ := hR.up hb7
      have HB7 := Lib.hid (((HB6.out.alloc HB6.out.size _).alloc (by have := HB6.out.size; simp; omega) _).trans (hb7.mono (by have := HB6.out.size; simp; omega)))
      clear hb7 ha hR
      go_wp2
      go_ret
      exact ⟨rfl, HB7.out⟩
set_option maxRecDepth 100000 in
set_option maxHeartbeats 2000000 in
theorem pb_21 (a : Nat) (ha : a < 256) (hk : (a : Int) % 3 = 2) (w : World) : Calls Try.prog 10 #[.int .u8 (a : Int), .bool true] w fun e w' => e = .returned (.bool true) ∧ Below w.heap.size w w' := by
  go_enter Try.func10, Try.ntmps10
  go_wp2
  go_loopw [6, 9, 10] (fun s t i wr => ∃ k : Nat, k ≤ 9 ∧ i = .int .i64 k ∧ Below w.heap.size w wr ∧ ∃ S X, s = .string S ∧ t = .string X ∧ Hid (S = bs (piecesS k)) ∧ Hid (X = bs (piecesT k))) (fun _ _ i _ => 9 - (intOf i).toNat)
  case atStart => exact ⟨0, by omega, rfl, Below.refl _ _, _, _, rfl, rfl, Lib.hid rfl, Lib.hid rfl⟩
  case round =>
    obtain ⟨k, hk', rfl, hb, S, X, rfl, rfl, HS, HX⟩ := hrel
    have hSs : S.size = k * 9 := by rw [HS.out, bs_size, piecesS_len]
    have hXs : X.size ≤ 12 + k * 3 := by rw [HX.out, bs_size]; exact piecesT_len k
    by_cases hlt : k < 9
    · have hlti : (k : Int) < 9 := by omega
      have hm8 : IntKind.u8.wrap (97 + (k : Int)) = 97 + (k : Int) := u8_in _ (by omega) (by omega)
      have hcv := run_conv1 wr k 97 (by omega)
      have hcv2 := run_conv1 (wr.alloc (.cells #[.int .u8 (97 + (k : Int))] 5)) k 97 (by omega)
      rw [show ((97 : Nat) : Int) = 97 from rfl] at hcv hcv2
      rw [show (wr.alloc (.cells #[.int .u8 (97 + (k : Int))] 5)).heap.size = wr.heap.size + 1 by simp] at hcv2
      obtain ⟨sv, hsv⟩ : ∃ sv, sv = bs [UInt8.ofNat (97 + k)] := ⟨_, rfl⟩
      rw [← hsv] at hcv hcv2
      obtain ⟨z1, hz1⟩ : ∃ z, z = bs ([112, 108, 97, 99, 101, 32, 113] ++ [UInt8.ofNat (97 + k)]) := ⟨_, rfl⟩
      obtain ⟨z2, hz2⟩ : ∃ z, z = bs ([112, 108, 97, 99, 101, 32, 113] ++ [UInt8.ofNat (97 + k)] ++ [59]) := ⟨_, rfl⟩
      obtain ⟨S2, hS2⟩ : ∃ z, z = bs (piecesS (k + 1)) := ⟨_, rfl⟩
      obtain ⟨z4, hz4⟩ : ∃ z, z = bs ([113] ++ [UInt8.ofNat (97 + k)]) := ⟨_, rfl⟩
      obtain ⟨X2, hX2⟩ : ∃ z, z = bs (piecesT (k + 1)) := ⟨_, rfl⟩
      have q1 : ({ data := #[112, 108, 97, 99, 101, 32, 113] } : ByteArray) ++ sv = z1 := by rw [hz1, hsv, ← bs_cat]; rfl
      have q2 : z1 ++ { data := #[59] } = z2 := by rw [hz1, hz2, ← bs_cat]; rfl
      have q3 : S ++ z2 = S2 := by rw [HS.out, hz2, hS2, bs_cat, piecesS_succ]; rfl
      have q4 : ({ data := #[113] } : ByteArray) ++ sv = z4 := by rw [hz4, hsv, ← bs_cat]; rfl
      have s0 : sv.size = 1 := by rw [hsv]; rfl
      have s1 : z1.size = 8 := by rw [hz1, bs_size]; rfl
      have s2 : z2.size = 9 := by rw [hz2, bs_size]; rfl
      have s4 : z4.size = 2 := by rw [hz4, bs_size]; rfl
      have HS2 := Lib.hid hS2
      have HX2 := Lib.hid hX2
      have Hb := Lib.hid ((hb.alloc hb.size (.cells #[.int .u8 (97 + (k : Int))] 5)).alloc (by have := hb.size; simp; omega) (.cells #[.int .u8 (97 + (k : Int))] 5))
      by_cases h0 : 0 < k
      · have h0i : (0 : Int) < (k : Int) := by omega
        obtain ⟨z5, hz5⟩ : ∃ z, z = bs (piecesT k ++ [44]) := ⟨_, rfl⟩
        have q5 : X ++ { data := #[44] } = z5 := by rw [HX.out, hz5, ← bs_cat]; rfl
        have q6 : z5 ++ z4 = X2 := by rw [hz5, hz4, hX2, bs_cat, piecesT_succ]; unfold pieceT; rw [if_pos h0, List.append_assoc]
        have s5 : z5.size ≤ 13 + k * 3 := by rw [hz5, bs_size, List.length_append]; have := piecesT_len k; simp; omega
        clear hb hsv hz1 hz2 hS2 hz4 hX2 hz5
        go_wp2
        go_roundw
        case rel => exact ⟨k + 1, by omega, by go_num, Hb.out, S2, X2, rfl, rfl, HS2, HX2⟩
        case measure => simp [intOf]; omega
      · have h0i : ¬ (0 : Int) < (k : Int) := by omega
        have q6 : X ++ z4 = X2 := by rw [HX.out, hz4, hX2, bs_cat, piecesT_succ]; unfold pieceT; rw [if_neg h0, List.nil_append]
        clear hb hsv hz1 hz2 hS2 hz4 hX2
        go_wp2
        go_roundw
        case rel => exact ⟨k + 1, by omega, by go_num, Hb.out, S2, X2, rfl, rfl, HS2, HX2⟩
        case measure => simp [intOf]; omega
    · have hge : ¬ (k : Int) < 9 := by omega
      obtain rfl : k = 9 := by omega
      obtain ⟨z5, hz5⟩ : ∃ z, z = bs (piecesT 9 ++ [59]) := ⟨_, rfl⟩
      obtain ⟨S2, hS2⟩ : ∃ z, z = bs (piecesS 9 ++ (piecesT 9 ++ [59])) := ⟨_, rfl⟩
      have q5 : X ++ { data := #[59] } = z5 := by rw [HX.out, hz5, ← bs_cat]; rfl
      have q6 : S ++ z5 = S2 := by rw [HS.out, hz5, hS2, bs_cat]
      have s5 : z5.size = 39 := by rw [hz5, bs_size]; rfl
      obtain ⟨bb, cc, w5, hrb, hcc, hB, b5⟩ := run_bytes_of wr S2
      have hSs2 : S2.size = 120 := by rw [hS2, bs_size]; rfl
      have hSd : S2.data.toList = piecesS 9 ++ (piecesT 9 ++ [59]) := by rw [hS2, bs_data]
      rw [hSs2, hSd] at hB
      rw [hSs2] at hrb hcc
      have hnet := net_bad (er := 5) (p := 117) hB cc hcc (by decide) (by rw [parseF_eq]; kernel_rfl)
      have Hb5 := Lib.hid (hb.trans (b5.mono hb.size))
      clear hB hb b5 hcc hSd HS HX hz5 hS2
      go_wp2_with fail
      refine hnet.mono ?_
      rintro e w6 ⟨rfl, _, hb6⟩
      have HB6 := Lib.hid (Hb5.out.trans (hb6.mono Hb5.out.size))
      unfold faultV
      generalize placeL _ = pq
      obtain ⟨q1, q2⟩ := pq
      simp only
      have ha := awake6 ((w6.alloc (.cells #[.slice none 0 0, .slice none 0 0] 30)).alloc (.cells #[.int .i64 5, .int .i64 ((117 : Nat) : Int), .int .i64 (q1 : Int), .int .i64 (q2 : Int)] 51))
      clear hb6 hnet hrb
      go_wp2_with fail
      refine ha.mono ?_
      rintro e w7 ⟨rfl, hb7⟩
      have c0 : w7.cell? ⟨w6.heap.size + 1, 0, none⟩ = some (.int .i64 5) := (below_cells hb7 _ _ (by simp)).trans (by go_simp)
      have hlt7 : w6.heap.size + 1 < w7.heap.size := by have := hb7.size; simp at this; omega
      have HB7 := Lib.hid (((HB6.out.alloc HB6.out.size _).alloc (by have := HB6.out.size; simp; omega) _).trans (hb7.mono (by have := HB6.out.size; simp; omega)))
      clear hb7 ha
      go_wp2
      go_ret
      exact ⟨rfl, HB7.out⟩
theorem pbounds_law (a : Int) (ha : (Lit.int .u8 a).wf = true) (b : Bool) (w : World) : Calls Try.prog 10 #[.int .u8 a, .bool b] w fun e w' => e = .returned (.bool true) ∧ Below w.heap.size w w' := by
  have hb : 0 ≤ a ∧ a ≤ 255 := by simpa [Lit.wf, IntKind.min, IntKind.max, IntKind.signed, IntKind.bits] using ha
  obtain ⟨h, rfl⟩ : ∃ h : Nat, a = (h : Int) := ⟨a.toNat, by omega⟩
  have hh : h < 256 := by omega
  have hc : h % 3 = 0 ∨ h % 3 = 1 ∨ h % 3 = 2 := by omega
  cases b
  · rcases hc with hc | hc | hc
    · exact pb_00 h hh (by omega) w
    · exact pb_10 h hh (by omega) w
    · exact pb_20 h hh (by omega) w
  · rcases hc with hc | hc | hc
    · exact pb_01 h hh (by omega) w
    · exact pb_11 h hh (by omega) w
    · exact pb_21 h hh (by omega) w
end Go.Proofs.Ytoicmoodhblflaa
