/-
  The walk of the law LexPlaces: for all bytes, every place and every error it returns true.
  Conditions: none beyond the theorem's own.
-/
import Derived.Test.YtohfdakagppgmaaLexAwake
import Derived.Test.YtohfdakagppgmaaBytesIn
namespace Go.Proofs.Ytohfdakagppgmaa
open Go.RowKit
set_option linter.unusedVariables false

section
variable {w : World} {A : Option Addr} {n : Nat} {l : List UInt8}

set_option maxRecDepth 100000 in
set_option maxHeartbeats 2000000 in
theorem places_law (h : BytesAt w A n l) (c : Nat) (hc : n ≤ c) (hmax : n ≤ 9223372036854775807) (at_ er : Int) (h1 : -9223372036854775808 ≤ at_) (h2 : at_ ≤ 9223372036854775807) (h3 : -128 ≤ er) (h4 : er ≤ 127) :
    Calls Try.prog 5 #[.slice A n c, .int .i64 at_, .int .i8 er] w fun e w' => e = .returned (.bool true) ∧ Below w.heap.size w w' := by
  have H := Lib.hid h
  clear h
  by_cases hbig : 200 < n
  · have hbi : (200 : Int) < (n : Int) := by omega
    go_enter Try.func5, Try.ntmps5
    go_wp2_with fail
    refine (awake_any _).mono ?_
    rintro e w1 ⟨rfl, hb1⟩
    have Hb1 := Lib.hid hb1
    clear hb1
    go_wp2_with fail
    refine (awake_any _).mono ?_
    rintro e w2 ⟨rfl, hb2⟩
    have Hb2 := Lib.hid (Hb1.out.trans (hb2.mono Hb1.out.size))
    clear hb2
    go_wp2
    go_ret
    exact ⟨rfl, Hb2.out⟩
  · have hbi : ¬ (200 : Int) < (n : Int) := by omega
    have hbd : decide ((200 : Int) < (n : Int)) = false := by simpa using hbi
    have hbd2 : decide (200 < n) = false := by simpa using hbig
    go_enter Try.func5, Try.ntmps5
    go_wp2_with fail
    refine (awake_any _).mono ?_
    rintro e w1 ⟨rfl, hb1⟩
    obtain ⟨k, hk⟩ : ∃ k, k = clampI at_ n := ⟨_, rfl⟩
    have hkn : k ≤ n := by rw [hk]; unfold clampI; omega
    have hmm : min (max at_ 0) (n : Int) = (k : Int) := by rw [hk]; exact clamp_eq at_ n
    have hck : clampI (k : Int) n = k := by unfold clampI; omega
    have hp1 := place_any (H.out.below hb1) c hc (by omega) at_ h1 h2
    rw [← hk] at hp1
    obtain ⟨⟨q1, q2⟩, hq⟩ : ∃ q, q = placeL (l.take k) := ⟨_, rfl⟩
    rw [← hq] at hp1
    have Hq := Lib.hid hq
    have Hck := Lib.hid hck
    have Hb1 := Lib.hid hb1
    clear hk hq hck hb1
    go_wp2_with fail
    refine hp1.mono ?_
    rintro e w2 ⟨rfl, hb2⟩
    have hb2w := Hb1.out.trans (hb2.mono Hb1.out.size)
    have hp2 := rplace_any (H.out.below hb2w) c k hkn (by omega)
    rw [← Hq.out] at hp2
    have hp3 := fault_any (H.out.below hb2w) c hc (by omega) er (k : Int) (by omega) (by omega)
    rw [Hck.out, ← Hq.out] at hp3
    have Hb2 := Lib.hid hb2w
    clear hb2 hb2w
    have hp4 : Calls Try.prog 16 #[.slice A n c, .int .i64 er, .int .i64 (k : Int)] w2 fun e w' => e = .returned (.agg #[.int .i64 er, .int .i64 (k : Int), .int .i64 (q1 : Int), .int .i64 (q2 : Int)]) ∧ Below w2.heap.size w2 w' := hp3
    clear hp3
    go_wp2_with (first | (go_at_call 12; refine hp2.mono ?_; rintro e w3 ⟨rfl, rfl⟩) | (go_at_call 16; refine hp4.mono ?_; rintro e w4 ⟨rfl, hb4⟩; have Hb4 := Lib.hid (Hb2.out.trans (hb4.mono Hb2.out.size)); clear hb4))
    go_ret
    exact ⟨rfl, Hb4.out⟩

end

end Go.Proofs.Ytohfdakagppgmaa
