/-
  The walk of the law ParseDefaults: for all its inputs it returns true.
  Conditions: none beyond the theorems' own.
-/
import Derived.Test.YtfiielibnnodkaaRTexts
import Derived.Test.YtfiielibnnodkaaPUse
import Derived.Test.YtfiielibnnodkaaPAwake
import Derived.Test.YtfiielibnnodkaaNetHand
import Derived.Deep.CutRange
namespace Go.Proofs.Ytfiielibnnodkaa
open Go.RowKit
set_option linter.unusedVariables false

/-- the net whose text is looked at; and the one in which nothing is told -/
def netD (d p wt tk : Nat) : Nt := ⟨[⟨bs [112], (tk : Int)⟩], [⟨bs [116], (d : Int), (p : Int), [(0, 1 + (wt : Int))], [], []⟩]⟩
def net0 : Nt := ⟨[⟨bs [112], 0⟩], [⟨bs [116], 0, 0, [(0, 1)], [], []⟩]⟩
def s1D (b : Bool) : List UInt8 := [112, 108, 97, 99, 101, 32, 112] ++ (if b then [32, 61, 32, 48] else [])
def s2D (b : Bool) : List UInt8 := [116, 114, 97, 110, 115, 32, 116] ++ (if b then [32, 64, 48] else [])
def s3D (b c : Bool) : List UInt8 := s2D b ++ (if c then [32, 33, 48] else [])
def text2 (b1 b2 b3 : Bool) : List UInt8 := s1D b1 ++ [59, 32] ++ s3D b2 b3 ++ [58, 32, 112, 42, 49, 32, 45, 62, 32, 59]
theorem text2_ok (b1 b2 b3 : Bool) : parseL (text2 b1 b2 b3) = .ok net0 := by
  rw [parseF_eq]
  cases b1 <;> cases b2 <;> cases b3 <;> kernel_rfl
theorem text2_len (b1 b2 b3 : Bool) : (text2 b1 b2 b3).length ≤ 100 := by
  cases b1 <;> cases b2 <;> cases b3 <;> decide
theorem netD_ok {d p wt tk : Nat} (hd : d ≤ 65535) (hp : p ≤ 65535) (hw : wt ≤ 65535) (ht : tk ≤ 65535) : NetOk (netD d p wt tk).places.length (netD d p wt tk) := by
  have nb0 : ∀ k : Nat, k ≤ 65535 → numB 0 (k : Int) = true := fun k hk => by simp only [numB, Bool.and_eq_true, decide_eq_true_eq]; omega
  refine ⟨by simp [netD], by simp [netD], fun q hq => ?_, fun s hs => ?_, ?_, fun t ht' => ?_⟩
  · simp only [netD, List.mem_singleton] at hq; subst hq; exact nb0 tk ht
  · simp only [Nt.names, netD, List.map_cons, List.map_nil, List.cons_append, List.nil_append, List.mem_cons, List.not_mem_nil, or_false] at hs
    rcases hs with rfl | rfl <;> decide
  · show ([bs [112], bs [116]] : List ByteArray).Pairwise (fun a b => sEq a b = false)
    decide
  · simp only [netD, List.mem_singleton] at ht'
    subst ht'
    refine ⟨nb0 d hd, nb0 p hp, ⟨?_, by simp⟩, ⟨rfl, by simp⟩, ⟨rfl, by simp⟩⟩
    have h1 : numB 1 (1 + (wt : Int)) = true := by simp only [numB, Bool.and_eq_true, decide_eq_true_eq]; omega
    show arcsErr 1 [] [(0, 1 + (wt : Int))] = 0
    simp [arcsErr, h1, inP, hasP]

set_option maxRecDepth 100000 in
set_option maxHeartbeats 4000000 in
theorem defaults_law (d p wt tk : Nat) (hd : d ≤ 65535) (hp : p ≤ 65535) (hw : wt ≤ 65535) (ht : tk ≤ 65535) (w : World) :
    Calls Try.prog 8 #[.int .u16 (d : Int), .int .u16 (p : Int), .int .u16 (wt : Int), .int .u16 (tk : Int)] w fun e w' => e = .returned (.bool true) ∧ Below w.heap.size w w' := by
  obtain ⟨W, hW⟩ : ∃ W, W = (((w.alloc (.cells #[.string { data := #[112] }, .int .i64 (tk : Int)] 35)).alloc (.cells #[.int .i64 0, .int .i64 (1 + (wt : Int))] 37)).alloc (.cells #[.string { data := #[116] }, .int .i64 (d : Int), .int .i64 (p : Int), .slice (some ⟨w.heap.size + 1, 0, none⟩) 1 1, .slice none 0 0, .slice none 0 0] 40)).alloc (.cells #[.slice (some ⟨w.heap.size, 0, none⟩) 1 1, .slice (some ⟨w.heap.size + 2, 0, none⟩) 1 1] 30) := ⟨_, rfl⟩
  have hsz : W.heap.size = w.heap.size + 4 := by rw [hW]; simp
  have hB : Below w.heap.size w W := by
    rw [hW]
    exact ((((Below.refl _ w).alloc (Nat.le_refl _) _).alloc (by simp) _).alloc (by simp <;> omega) _).alloc (by simp <;> omega) _
  have k0 : CellsAre W w.heap.size 0 [.string { data := #[112] }, .int .i64 (tk : Int)] := by rw [hW]; exact ⟨by go_simp, by go_simp, trivial⟩
  have k1 : CellsAre W (w.heap.size + 1) 0 [.int .i64 0, .int .i64 (1 + (wt : Int))] := by rw [hW]; exact ⟨by go_simp, by go_simp, trivial⟩
  have k2 : CellsAre W (w.heap.size + 2) 0 [.string { data := #[116] }, .int .i64 (d : Int), .int .i64 (p : Int), .slice (some ⟨w.heap.size + 1, 0, none⟩) 1 1, .slice none 0 0, .slice none 0 0] := by rw [hW]; exact ⟨by go_simp, by go_simp, by go_simp, by go_simp, by go_simp, by go_simp, trivial⟩
  have k3 : W.cell? ⟨w.heap.size + 3, 0, none⟩ = some (.slice (some ⟨w.heap.size, 0, none⟩) 1 1) ∧ W.cell? ⟨w.heap.size + 3, 1, none⟩ = some (.slice (some ⟨w.heap.size + 2, 0, none⟩) 1 1) := by rw [hW]; exact ⟨by go_simp, by go_simp⟩
  have hNA : NetAt W (.slice (some ⟨w.heap.size, 0, none⟩) 1 1) (.slice (some ⟨w.heap.size + 2, 0, none⟩) 1 1) (netD d p wt tk) :=
    netAt_mk (n := netD d p wt tk) (k0.row (size := 2) (n := 1) (cap := 1) (by omega) rfl (by omega) (by omega)) [(⟨bs [116], (d : Int), (p : Int), [(0, 1 + (wt : Int))], [], []⟩, .slice (some ⟨w.heap.size + 1, 0, none⟩) 1 1, .slice none 0 0, .slice none 0 0)] rfl
      (k2.row (size := 6) (n := 1) (cap := 1) (by omega) rfl (by omega) (by omega)) (fun x hx => by
        rw [List.mem_singleton] at hx
        subst hx
        exact ⟨k1.row (size := 2) (n := 1) (cap := 1) (by omega) rfl (by omega) (by omega), arcsAt_nil W, arcsAt_nil W⟩)
  have Hok := Lib.hid (netD_ok hd hp hw ht)
  have htx := rtext_any (n := netD d p wt tk) (np := 1) (nt := 1) rfl rfl hNA Hok.out
  obtain ⟨N, hN⟩ : ∃ N, N = netD d p wt tk := ⟨_, rfl⟩
  have Hnp : Hid (1 = N.places.length ∧ 1 = N.trans.length) := Lib.hid (by rw [hN]; exact ⟨rfl, rfl⟩)
  rw [← hN] at htx hNA Hok
  obtain ⟨X, hX⟩ : ∃ X, X = bs (textN N) := ⟨_, rfl⟩
  rw [← hX] at htx
  have HX := Lib.hid hX
  have HNA := Lib.hid hNA
  have HB := Lib.hid hB
  have Hk3 := Lib.hid k3
  have Hsz := Lib.hid hsz
  have hww : IntKind.i64.wrap (1 + (wt : Int)) = 1 + (wt : Int) := by simp [IntKind.wrap, IntKind.bits, IntKind.signed]; omega
  clear hB k0 k1 k2 k3 hNA hN hX hsz
  subst hW
  go_enter Try.func8, Try.ntmps8
  go_wp2_with fail
  refine htx.mono ?_
  rintro e w1 ⟨rfl, hb1⟩
  obtain ⟨bb, cc, w2, hrb, hcc, hBy, b2⟩ := run_bytes_of w1 X
  have hXs : X.size ≤ 30000 := by rw [HX.out, bs_size]; exact Hok.out.fits.text_len
  have hnet := net_ok hBy cc hcc (by omega) (show parseL X.data.toList = .ok N by rw [HX.out]; exact parse_text Hok.out)
  have hU2 := hb1.trans (b2.mono hb1.size)
  have HU2 := Lib.hid hU2
  clear htx hb1 hBy hcc b2 hXs hU2
  go_wp2_with fail
  refine hnet.mono ?_
  rintro e w3 ⟨a3, n3, c3, a4, n4, c4, rfl, hn3, hn4, hna3, hb3⟩
  have HU3 := Lib.hid (HU2.out.trans (hb3.mono HU2.out.size))
  have Hna3 := Lib.hid hna3
  have Hn3 := Lib.hid hn3
  have Hn4 := Lib.hid hn4
  clear hnet hrb hb3 hna3 hn3 hn4
  go_upto_region 6 with (fail)
  have hR := Res.start w3 (.slice a3 n3 c3) (.slice a4 n4 c4)
  have hal : Below w3.heap.size w3 ((w3.alloc (.cells #[.slice a3 n3 c3, .slice a4 n4 c4] 30)).alloc (.cells #[.int .i64 0, .int .i64 0, .int .i64 0, .int .i64 0] 49)) := ((Below.refl _ w3).alloc (Nat.le_refl _) _).alloc (by simp) _
  have HU4 := Lib.hid (HU3.out.trans (hal.mono HU3.out.size))
  have Hna4 := Lib.hid (Hna3.out.below hal)
  obtain ⟨B1, hB1⟩ : ∃ B, B = w3.heap.size := ⟨_, rfl⟩
  rw [← hB1] at hR
  rw [← hB1]
  have HR := Lib.hid hR
  clear hal hR hB1 HU2 HU3 Hna3
  revert HU4 Hna4 HR
  generalize (w3.alloc (.cells #[.slice a3 n3 c3, .slice a4 n4 c4] 30)).alloc (.cells #[.int .i64 0, .int .i64 0, .int .i64 0, .int .i64 0] 49) = W4
  intro HU4 Hna4 HR
  obtain ⟨b1, hb1⟩ : ∃ b, b = decide (tk = 0) := ⟨_, rfl⟩
  obtain ⟨b2, hb2⟩ : ∃ b, b = decide (d = 0) := ⟨_, rfl⟩
  obtain ⟨b3, hb3⟩ : ∃ b, b = decide (p = 0) := ⟨_, rfl⟩
  obtain ⟨S1, hS1⟩ : ∃ S, S = bs (s1D b1) := ⟨_, rfl⟩
  obtain ⟨S2, hS2⟩ : ∃ S, S = bs (s2D b2) := ⟨_, rfl⟩
  obtain ⟨S3, hS3⟩ : ∃ S, S = bs (s3D b2 b3) := ⟨_, rfl⟩
  have HS1 := Lib.hid hS1
  have HS2 := Lib.hid hS2
  have HS3 := Lib.hid hS3
  have Hb1 := Lib.hid hb1
  have Hb2 := Lib.hid hb2
  have Hb3 := Lib.hid hb3
  clear hS1 hS2 hS3 hb1 hb2 hb3
  go_upto_if 42 with (fail)
  go_cut [9] from 41 to 119 (fun s9 wc => s9 = .string S1 ∧ wc = W4)
  case first =>
    by_cases h0 : tk = 0
    · have h0b : ((tk : Int) == 0) = true := by simp; omega
      have q : ({ data := #[112, 108, 97, 99, 101, 32, 112] } : ByteArray) ++ { data := #[32, 61, 32, 48] } = S1 := by rw [HS1.out, Hb1.out, decide_eq_true h0]; decide
      go_wp2
      go_meet
      case rel => exact ⟨rfl, rfl⟩
    · have h0b : ((tk : Int) == 0) = false := by simp; omega
      have q : Hid (({ data := #[112, 108, 97, 99, 101, 32, 112] } : ByteArray) = S1) := Lib.hid (by rw [HS1.out, Hb1.out, decide_eq_false h0]; rfl)
      go_wp2
      go_meet
      case rel => exact ⟨by rw [q.out], rfl⟩
  case rest =>
    obtain ⟨rfl, rfl⟩ := hcut
    go_upto_if 46 with (fail)
    go_cut [10] from 41 to 119 (fun s10 wc' => s10 = .string S2 ∧ wc' = wc)
    case first =>
      by_cases h0 : d = 0
      · have h0b : ((d : Int) == 0) = true := by simp; omega
        have q : ({ data := #[116, 114, 97, 110, 115, 32, 116] } : ByteArray) ++ { data := #[32, 64, 48] } = S2 := by rw [HS2.out, Hb2.out, decide_eq_true h0]; decide
        go_wp2
        go_meet
        case rel => exact ⟨rfl, rfl⟩
      · have h0b : ((d : Int) == 0) = false := by simp; omega
        have q : Hid (({ data := #[116, 114, 97, 110, 115, 32, 116] } : ByteArray) = S2) := Lib.hid (by rw [HS2.out, Hb2.out, decide_eq_false h0]; rfl)
        go_wp2
        go_meet
        case rel => exact ⟨by rw [q.out], rfl⟩
    case rest =>
      obtain ⟨rfl, rfl⟩ := hcut
      have hs2z : S2.size ≤ 10 := by rw [HS2.out, bs_size]; cases b2 <;> decide
      go_upto_if 50 with (fail)
      go_cut [10] from 41 to 119 (fun s10 wc' => s10 = .string S3 ∧ wc' = wc)
      case first =>
        by_cases h0 : p = 0
        · have h0b : ((p : Int) == 0) = true := by simp; omega
          have q : S2 ++ { data := #[32, 33, 48] } = S3 := by rw [HS2.out, HS3.out, Hb3.out, decide_eq_true h0]; exact cat_eq (b := [32, 33, 48]) rfl
          go_wp2
          go_meet
          case rel => exact ⟨rfl, rfl⟩
        · have h0b : ((p : Int) == 0) = false := by simp; omega
          have q : Hid (S2 = S3) := Lib.hid (by rw [HS2.out, HS3.out, Hb3.out, decide_eq_false h0]; unfold s3D; simp)
          go_wp2
          go_meet
          case rel => exact ⟨by rw [q.out], rfl⟩
      case rest =>
        obtain ⟨rfl, rfl⟩ := hcut
        obtain ⟨y1, hy1⟩ : ∃ y, y = bs (s1D b1 ++ [59, 32]) := ⟨_, rfl⟩
        obtain ⟨y2, hy2⟩ : ∃ y, y = bs (s1D b1 ++ [59, 32] ++ s3D b2 b3) := ⟨_, rfl⟩
        obtain ⟨y3, hy3⟩ : ∃ y, y = bs (text2 b1 b2 b3) := ⟨_, rfl⟩
        have q1 : S1 ++ { data := #[59, 32] } = y1 := by rw [HS1.out, hy1]; exact cat_eq (b := [59, 32]) rfl
        have q2 : y1 ++ S3 = y2 := by rw [hy1, HS3.out, hy2]; exact cat_eq rfl
        have q3 : y2 ++ { data := #[58, 32, 112, 42, 49, 32, 45, 62, 32, 59] } = y3 := by rw [hy2, hy3]; exact cat_eq (b := [58, 32, 112, 42, 49, 32, 45, 62, 32, 59]) rfl
        have z1 : S1.size ≤ 11 := by rw [HS1.out, bs_size]; cases b1 <;> decide
        have z3 : S3.size ≤ 13 := by rw [HS3.out, bs_size]; cases b2 <;> cases b3 <;> decide
        have z2 : y1.size ≤ 13 := by rw [← q1, ByteArray.size_append]; show S1.size + 2 ≤ 13; omega
        have z4 : y2.size ≤ 26 := by rw [← q2, ByteArray.size_append]; omega
        have z5 : y3.size ≤ 36 := by rw [← q3, ByteArray.size_append]; show y2.size + 10 ≤ 36; omega
        obtain ⟨bb2, cc2, w5, hrb2, hcc2, hBy2, bw5⟩ := run_bytes_of wc y3
        have hnet2 := net_ok hBy2 cc2 hcc2 (by omega) (show parseL y3.data.toList = .ok net0 by rw [hy3]; exact text2_ok b1 b2 b3)
        have HU5 := Lib.hid (HU4.out.trans (bw5.mono HU4.out.size))
        have HR5 := Lib.hid (HR.out.up bw5)
        have Hna5 := Lib.hid (Hna4.out.below bw5)
        clear hy1 hy2 hy3 hBy2 hcc2 bw5 HR Hna4 HU4
        go_wp2_with fail
        refine hnet2.mono ?_
        rintro e w6 ⟨a5, n5, c5, a6, n6, c6, rfl, hn5, hn6, hna6, hb6⟩
        have HU6 := Lib.hid (HU5.out.trans (hb6.mono HU5.out.size))
        have HR6 := Lib.hid (HR5.out.up hb6)
        have Hna6 := Lib.hid (Hna5.out.below hb6)
        have HM6 := Lib.hid hna6
        obtain rfl : n5 = 1 := hn5
        obtain rfl : n6 = 1 := hn6
        clear hnet2 hrb2 hb6 hna6 HU5 HR5 Hna5 q1 q2 q3
        go_upto_region 13 with (fail)
        have hR2 := Res.start w6 (.slice a5 1 c5) (.slice a6 1 c6)
        have hal : Below w6.heap.size w6 ((w6.alloc (.cells #[.slice a5 1 c5, .slice a6 1 c6] 30)).alloc (.cells #[.int .i64 0, .int .i64 0, .int .i64 0, .int .i64 0] 49)) := ((Below.refl _ w6).alloc (Nat.le_refl _) _).alloc (by simp) _
        have HU7 := Lib.hid (HU6.out.trans (hal.mono HU6.out.size))
        have HR7 := Lib.hid (HR6.out.up hal)
        have Hna7 := Lib.hid (Hna6.out.below hal)
        have HM7 := Lib.hid (HM6.out.below hal)
        obtain ⟨B2, hB2⟩ : ∃ B, B = w6.heap.size := ⟨_, rfl⟩
        rw [← hB2] at hR2
        rw [← hB2]
        have HS7 := Lib.hid hR2
        clear hal hR2 hB2 HU6 HR6 Hna6 HM6
        revert HU7 HR7 Hna7 HM7 HS7
        generalize (w6.alloc (.cells #[.slice a5 1 c5, .slice a6 1 c6] 30)).alloc (.cells #[.int .i64 0, .int .i64 0, .int .i64 0, .int .i64 0] 49) = W7
        intro HU7 HR7 Hna7 HM7 HS7
        have haw := awake6 W7
        go_wp2_with fail
        refine haw.mono ?_
        rintro e w8 ⟨rfl, hb8⟩
        have HU8 := Lib.hid (HU7.out.trans (hb8.mono HU7.out.size))
        have HR8 := HR7.out.up hb8
        have HM8 := Lib.hid (HM7.out.below hb8)
        have HS8 := Lib.hid (HS7.out.up hb8)
        have HNA8 := HNA.out.below HU8.out
        have hsm := same_any Hn3.out Hn4.out Hnp.out.1 Hnp.out.2 (Hna7.out.below hb8) HNA8
        rw [sameN_refl] at hsm
        obtain ⟨r0, r1, f0, f1, f2, f3, flt⟩ := HR8
        have flt0 : B1 < w8.heap.size := by omega
        have g0 : w8.cell? ⟨w.heap.size + 3, 0, none⟩ = some (.slice (some ⟨w.heap.size, 0, none⟩) 1 1) := (below_cells HU8.out _ _ (by rw [Hsz.out]; omega)).trans Hk3.out.1
        have g1 : w8.cell? ⟨w.heap.size + 3, 1, none⟩ = some (.slice (some ⟨w.heap.size + 2, 0, none⟩) 1 1) := (below_cells HU8.out _ _ (by rw [Hsz.out]; omega)).trans Hk3.out.2
        have glt : w.heap.size + 3 < w8.heap.size := Nat.lt_of_lt_of_le (by rw [Hsz.out]; omega) HU8.out.size
        clear haw hb8 HNA8
        go_wp2_with fail
        refine hsm.mono ?_
        rintro e w9 ⟨rfl, hb9⟩
        have HU9 := Lib.hid (HU8.out.trans (hb9.mono HU8.out.size))
        have HM9 := HM8.out.below hb9
        obtain ⟨s0, s1, u0, u1, u2, u3, ult⟩ := HS8.out.up hb9
        obtain ⟨gP, l, gl, gT⟩ := HM9
        obtain ⟨pb, poff, rfl, hpb, p0, p1⟩ := PlsAt.at_ (i := 0) (x := ⟨bs [112], 0⟩) gP rfl
        obtain ⟨tb, toff, x1, y1', x2, y2', x3, y3', e, htb, t0, t1, t2, t3, t4, t5, gA, -, -⟩ := TrsAt.at_ (i := 0) gT (by rw [gl]; rfl)
        subst e
        obtain ⟨ab, aoff, rfl, hab, v0, v1⟩ := ArcsAt.at_ (i := 0) (x := 0) (y := 1) gA rfl
        have ult0 : B2 < w9.heap.size := by omega
        clear hb9 gP gT gA gl hsm f0 f1 f2 f3 r0 r1 g0 g1
        simp only [Nat.zero_mul, Nat.add_zero] at p0 p1 t0 t1 t2 t3 t4 t5 v0 v1
        go_wp2
        go_ret
        exact ⟨rfl, HB.out.trans (HU9.out.mono HB.out.size)⟩

theorem defaults_all (a b c e : Int) (ha : 0 ≤ a ∧ a ≤ 65535) (hb : 0 ≤ b ∧ b ≤ 65535) (hc : 0 ≤ c ∧ c ≤ 65535) (he : 0 ≤ e ∧ e ≤ 65535) (w : World) :
    Calls Try.prog 8 #[.int .u16 a, .int .u16 b, .int .u16 c, .int .u16 e] w fun e w' => e = .returned (.bool true) ∧ Below w.heap.size w w' := by
  obtain ⟨d, rfl⟩ : ∃ d : Nat, a = (d : Int) := ⟨a.toNat, by omega⟩
  obtain ⟨p, rfl⟩ : ∃ d : Nat, b = (d : Int) := ⟨b.toNat, by omega⟩
  obtain ⟨wt, rfl⟩ : ∃ d : Nat, c = (d : Int) := ⟨c.toNat, by omega⟩
  obtain ⟨tk, rfl⟩ : ∃ d : Nat, e = (d : Int) := ⟨e.toNat, by omega⟩
  exact defaults_law d p wt tk (by omega) (by omega) (by omega) (by omega) w
end Go.Proofs.Ytfiielibnnodkaa
