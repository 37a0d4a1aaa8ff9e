/-
  Walks of the law NetBounds, where places or transitions are many: it returns true.
  Conditions: each theorem's own.
-/
import Derived.Test.YtoicmoodhblflaaNBoundsB
namespace Go.Proofs.Ytoicmoodhblflaa
open Go.RowKit
set_option linter.unusedVariables false

def nmB (k : Nat) : ByteArray := bs ([113] ++ [UInt8.ofNat (97 + k % 26), UInt8.ofNat (97 + k / 26)])
def plsB (k : Nat) : List Pl := [⟨tP, 0⟩] ++ (List.range k).map (fun i => ⟨nmB i, 0⟩)
def trB (k : Nat) : Tr × Value × Value × Value := (⟨nmB k, 0, 0, [], [], []⟩, .slice none 0 0, .slice none 0 0, .slice none 0 0)
def trsB (k : Nat) : List (Tr × Value × Value × Value) := [nbT] ++ (List.range k).map trB
theorem plsB_succ (k : Nat) : plsB (k + 1) = plsB k ++ [⟨nmB k, 0⟩] := by simp [plsB, List.range_succ]
theorem trsB_succ (k : Nat) : trsB (k + 1) = trsB k ++ [trB k] := by simp [trsB, List.range_succ]
theorem plsB_len (k : Nat) : (plsB k).length = k + 1 := by simp [plsB]
theorem trsB_len (k : Nat) : (trsB k).length = k + 1 := by simp [trsB]
def trsN (k : Nat) : List Tr := (trsB k).map (·.1)

set_option maxRecDepth 100000 in
set_option maxHeartbeats 2000000 in
theorem nb_00 (a : Nat) (ha : a < 256) (hk : (a : Int) % 6 = 0) (w : World) : Calls Try.prog 3 #[.int .u8 (a : Int), .bool false] w fun e w' => e = .returned (.bool true) ∧ Below w.heap.size w w' := by
  go_enter Try.func3, Try.ntmps3
  go_wp2
  go_loopw [8] (fun i wr => ∃ k : Nat, k ≤ 31 ∧ i = .int .i64 k ∧ ∃ vp, NB w wr vp (.slice (some ⟨w.heap.size + 1, 0, none⟩) 1 1) (plsB k) [nbT]) (fun i _ => 31 - (intOf i).toNat)
  case atStart => exact ⟨0, by omega, rfl, _, NB.start w⟩
  case round =>
    obtain ⟨k, hk', rfl, vp, hin⟩ := hrel
    obtain ⟨c0, c1, hsz⟩ := hin.cells
    by_cases hlt : k < 31
    · have hlti : (k : Int) < 31 := by omega
      obtain ⟨m, hm⟩ : ∃ m, m = k % 26 := ⟨_, rfl⟩
      obtain ⟨d, hd'⟩ : ∃ d, d = k / 26 := ⟨_, rfl⟩
      have hmi : (k : Int) % 26 = (m : Int) := by omega
      have hdi : (k : Int) / 26 = (d : Int) := by omega
      have hm8 : IntKind.u8.wrap (97 + (m : Int)) = 97 + (m : Int) := u8_in _ (by omega) (by omega)
      have hd8 : IntKind.u8.wrap (97 + (d : Int)) = 97 + (d : Int) := u8_in _ (by omega) (by omega)
      have hcv := run_conv2 wr m d (by omega) (by omega)
      obtain ⟨sv, hsv⟩ : ∃ sv, sv = bs [UInt8.ofNat (97 + m), UInt8.ofNat (97 + d)] := ⟨_, rfl⟩
      rw [← hsv] at hcv
      obtain ⟨nm, hnm⟩ : ∃ z, z = nmB k := ⟨_, rfl⟩
      have q1 : ({ data := #[113] } : ByteArray) ++ sv = nm := by rw [hnm, hsv]; unfold nmB; rw [← bs_cat, ← hm, ← hd']; rfl
      have s0 : sv.size = 2 := by rw [hsv]; rfl
      obtain ⟨v2, w2, hr, ho2, hk2, hv2⟩ := run_push_pl 24 ⟨nm, 0⟩ (w := wr.alloc (.cells #[.int .u8 (97 + (m : Int)), .int .u8 (97 + (d : Int))] 5)) (hin.pl.alloc _) (by rw [plsB_len]; omega) (by have := hin.below.size; simp; omega)
      obtain ⟨av2, nv2, cv2, rfl⟩ := own_form3 ho2
      obtain ⟨hin2, g1, g2, g3⟩ := hin.pushP ((Below.refl _ _).alloc (Nat.le_refl _) _) ho2 hk2 hv2
      have Hin2 : Hid (NB w (w2.setCell ⟨w.heap.size + 2, 0, none⟩ (.slice av2 nv2 cv2)) (.slice av2 nv2 cv2) (.slice (some ⟨w.heap.size + 1, 0, none⟩) 1 1) (plsB (k + 1)) [nbT]) := Lib.hid (by rw [plsB_succ]; first | (rw [hnm] at hin2; exact hin2) | (unfold trB; rw [hnm] at hin2; exact hin2))
      rw [show ∀ (W : World) (o : Obj), (W.alloc o).heap.size = W.heap.size + 1 from fun W o => by simp] at hr
      clear hin hin2 ho2 hk2 hv2 hm hd' hsv hnm
      go_wp2_with (at_builtin; refine wpList_append_eq rfl (.tmp 37) (.tmp 50) 24 rfl rfl rfl hr ?_)
      go_roundw
      case rel => exact ⟨k + 1, by omega, by go_num, _, Hin2.out⟩
      case measure => simp [intOf]; omega
    · have hge : ¬ (k : Int) < 31 := by omega
      obtain rfl : k = 31 := by omega
      have HE : Hid (checkN ⟨plsB 31, [nbT].map (·.1)⟩ = 0) := Lib.hid (by kernel_rfl)
      have hnet := hin.net
      obtain ⟨ap, cp, e1⟩ := own_form hin.pl
      have HN : Hid (NetAt wr vp (.slice (some ⟨w.heap.size + 1, 0, none⟩) 1 1) ⟨plsB 31, [nbT].map (·.1)⟩) := Lib.hid hnet
      replace e1 : vp = .slice ap 32 cp := e1
      subst e1
      have Hin := Lib.hid hin
      have ha := awake_any wr
      clear hin hnet c0 c1 hsz
      go_wp2_with fail
      refine ha.mono ?_
      rintro e w5 ⟨rfl, hb5⟩
      obtain ⟨c0, c1, hsz⟩ := (Hin.out.go hb5).cells
      have Hin5 := Lib.hid (Hin.out.go hb5)
      have hck := check_at (n := ⟨plsB 31, [nbT].map (·.1)⟩) rfl rfl (HN.out.below hb5) (by decide +kernel) HE.out
      clear hb5 ha
      go_wp2_with fail
      refine hck.mono ?_
      rintro e w6 ⟨rfl, hb6⟩
      have HB6 := Lib.hid (Hin5.out.go hb6).below
      clear hb6 hck
      go_wp2
      go_ret
      exact ⟨rfl, HB6.out⟩
set_option maxRecDepth 100000 in
set_option maxHeartbeats 2000000 in
theorem nb_01 (a : Nat) (ha : a < 256) (hk : (a : Int) % 6 = 0) (w : World) : Calls Try.prog 3 #[.int .u8 (a : Int), .bool true] w fun e w' => e = .returned (.bool true) ∧ Below w.heap.size w w' := by
  go_enter Try.func3, Try.ntmps3
  go_wp2
  go_loopw [8] (fun i wr => ∃ k : Nat, k ≤ 32 ∧ i = .int .i64 k ∧ ∃ vp, NB w wr vp (.slice (some ⟨w.heap.size + 1, 0, none⟩) 1 1) (plsB k) [nbT]) (fun i _ => 32 - (intOf i).toNat)
  case atStart => exact ⟨0, by omega, rfl, _, NB.start w⟩
  case round =>
    obtain ⟨k, hk', rfl, vp, hin⟩ := hrel
    obtain ⟨c0, c1, hsz⟩ := hin.cells
    by_cases hlt : k < 32
    · have hlti : (k : Int) < 32 := by omega
      obtain ⟨m, hm⟩ : ∃ m, m = k % 26 := ⟨_, rfl⟩
      obtain ⟨d, hd'⟩ : ∃ d, d = k / 26 := ⟨_, rfl⟩
      have hmi : (k : Int) % 26 = (m : Int) := by omega
      have hdi : (k : Int) / 26 = (d : Int) := by omega
      have hm8 : IntKind.u8.wrap (97 + (m : Int)) = 97 + (m : Int) := u8_in _ (by omega) (by omega)
      have hd8 : IntKind.u8.wrap (97 + (d : Int)) = 97 + (d : Int) := u8_in _ (by omega) (by omega)
      have hcv := run_conv2 wr m d (by omega) (by omega)
      obtain ⟨sv, hsv⟩ : ∃ sv, sv = bs [UInt8.ofNat (97 + m), UInt8.ofNat (97 + d)] := ⟨_, rfl⟩
      rw [← hsv] at hcv
      obtain ⟨nm, hnm⟩ : ∃ z, z = nmB k := ⟨_, rfl⟩
      have q1 : ({ data := #[113] } : ByteArray) ++ sv = nm := by rw [hnm, hsv]; unfold nmB; rw [← bs_cat, ← hm, ← hd']; rfl
      have s0 : sv.size = 2 := by rw [hsv]; rfl
      obtain ⟨v2, w2, hr, ho2, hk2, hv2⟩ := run_push_pl 24 ⟨nm, 0⟩ (w := wr.alloc (.cells #[.int .u8 (97 + (m : Int)), .int .u8 (97 + (d : Int))] 5)) (hin.pl.alloc _) (by rw [plsB_len]; omega) (by have := hin.below.size; simp; omega)
      obtain ⟨av2, nv2, cv2, rfl⟩ := own_form3 ho2
      obtain ⟨hin2, g1, g2, g3⟩ := hin.pushP ((Below.refl _ _).alloc (Nat.le_refl _) _) ho2 hk2 hv2
      have Hin2 : Hid (NB w (w2.setCell ⟨w.heap.size + 2, 0, none⟩ (.slice av2 nv2 cv2)) (.slice av2 nv2 cv2) (.slice (some ⟨w.heap.size + 1, 0, none⟩) 1 1) (plsB (k + 1)) [nbT]) := Lib.hid (by rw [plsB_succ]; first | (rw [hnm] at hin2; exact hin2) | (unfold trB; rw [hnm] at hin2; exact hin2))
      rw [show ∀ (W : World) (o : Obj), (W.alloc o).heap.size = W.heap.size + 1 from fun W o => by simp] at hr
      clear hin hin2 ho2 hk2 hv2 hm hd' hsv hnm
      go_wp2_with (at_builtin; refine wpList_append_eq rfl (.tmp 37) (.tmp 50) 24 rfl rfl rfl hr ?_)
      go_roundw
      case rel => exact ⟨k + 1, by omega, by go_num, _, Hin2.out⟩
      case measure => simp [intOf]; omega
    · have hge : ¬ (k : Int) < 32 := by omega
      obtain rfl : k = 32 := by omega
      have HE : Hid (checkN ⟨plsB 32, [nbT].map (·.1)⟩ = 5) := Lib.hid (by kernel_rfl)
      have hnet := hin.net
      obtain ⟨ap, cp, e1⟩ := own_form hin.pl
      have HN : Hid (NetAt wr vp (.slice (some ⟨w.heap.size + 1, 0, none⟩) 1 1) ⟨plsB 32, [nbT].map (·.1)⟩) := Lib.hid hnet
      replace e1 : vp = .slice ap 33 cp := e1
      subst e1
      have Hin := Lib.hid hin
      have ha := awake_any wr
      clear hin hnet c0 c1 hsz
      go_wp2_with fail
      refine ha.mono ?_
      rintro e w5 ⟨rfl, hb5⟩
      obtain ⟨c0, c1, hsz⟩ := (Hin.out.go hb5).cells
      have Hin5 := Lib.hid (Hin.out.go hb5)
      have hck := check_at (n := ⟨plsB 32, [nbT].map (·.1)⟩) rfl rfl (HN.out.below hb5) (by decide +kernel) HE.out
      clear hb5 ha
      go_wp2_with fail
      refine hck.mono ?_
      rintro e w6 ⟨rfl, hb6⟩
      have HB6 := Lib.hid (Hin5.out.go hb6).below
      clear hb6 hck
      go_wp2
      go_ret
      exact ⟨rfl, HB6.out⟩
set_option maxRecDepth 100000 in
set_option maxHeartbeats 2000000 in
theorem nb_10 (a : Nat) (ha : a < 256) (hk : (a : Int) % 6 = 1) (w : World) : Calls Try.prog 3 #[.int .u8 (a : Int), .bool false] w fun e w' => e = .returned (.bool true) ∧ Below w.heap.size w w' := by
  go_enter Try.func3, Try.ntmps3
  go_wp2
  go_loopw [9] (fun i wr => ∃ k : Nat, k ≤ 31 ∧ i = .int .i64 k ∧ ∃ vt, NB w wr (.slice (some ⟨w.heap.size, 0, none⟩) 1 1) vt [⟨tP, 0⟩] (trsB k)) (fun i _ => 31 - (intOf i).toNat)
  case atStart => exact ⟨0, by omega, rfl, _, NB.start w⟩
  case round =>
    obtain ⟨k, hk', rfl, vt, hin⟩ := hrel
    obtain ⟨c0, c1, hsz⟩ := hin.cells
    by_cases hlt : k < 31
    · have hlti : (k : Int) < 31 := by omega
      obtain ⟨m, hm⟩ : ∃ m, m = k % 26 := ⟨_, rfl⟩
      obtain ⟨d, hd'⟩ : ∃ d, d = k / 26 := ⟨_, rfl⟩
      have hmi : (k : Int) % 26 = (m : Int) := by omega
      have hdi : (k : Int) / 26 = (d : Int) := by omega
      have hm8 : IntKind.u8.wrap (97 + (m : Int)) = 97 + (m : Int) := u8_in _ (by omega) (by omega)
      have hd8 : IntKind.u8.wrap (97 + (d : Int)) = 97 + (d : Int) := u8_in _ (by omega) (by omega)
      have hcv := run_conv2 wr m d (by omega) (by omega)
      obtain ⟨sv, hsv⟩ : ∃ sv, sv = bs [UInt8.ofNat (97 + m), UInt8.ofNat (97 + d)] := ⟨_, rfl⟩
      rw [← hsv] at hcv
      obtain ⟨nm, hnm⟩ : ∃ z, z = nmB k := ⟨_, rfl⟩
      have q1 : ({ data := #[113] } : ByteArray) ++ sv = nm := by rw [hnm, hsv]; unfold nmB; rw [← bs_cat, ← hm, ← hd']; rfl
      have s0 : sv.size = 2 := by rw [hsv]; rfl
      obtain ⟨v2, w2, hr, ho2, hk2, hv2⟩ := run_push_tr 28 ((⟨nm, 0, 0, [], [], []⟩ : Tr), (Value.slice none 0 0), (Value.slice none 0 0), (Value.slice none 0 0)) (w := wr.alloc (.cells #[.int .u8 (97 + (m : Int)), .int .u8 (97 + (d : Int))] 5)) (hin.tr.alloc _) rfl rfl rfl (by rw [trsB_len]; omega) (by have := hin.below.size; simp; omega)
      obtain ⟨av2, nv2, cv2, rfl⟩ := own_form3 ho2
      obtain ⟨hin2, g1, g2, g3⟩ := hin.pushT ⟨rfl, rfl, rfl⟩ ((Below.refl _ _).alloc (Nat.le_refl _) _) ho2 hk2 hv2
      have Hin2 : Hid (NB w (w2.setCell ⟨w.heap.size + 2, 1, none⟩ (.slice av2 nv2 cv2)) (.slice (some ⟨w.heap.size, 0, none⟩) 1 1) (.slice av2 nv2 cv2) [⟨tP, 0⟩] (trsB (k + 1))) := Lib.hid (by rw [trsB_succ]; first | (rw [hnm] at hin2; exact hin2) | (unfold trB; rw [hnm] at hin2; exact hin2))
      rw [show ∀ (W : World) (o : Obj), (W.alloc o).heap.size = W.heap.size + 1 from fun W o => by simp] at hr
      clear hin hin2 ho2 hk2 hv2 hm hd' hsv hnm
      go_wp2_with (at_builtin; refine wpList_append_eq rfl (.tmp 62) (.tmp 75) 28 rfl rfl rfl hr ?_)
      go_roundw
      case rel => exact ⟨k + 1, by omega, by go_num, _, Hin2.out⟩
      case measure => simp [intOf]; omega
    · have hge : ¬ (k : Int) < 31 := by omega
      obtain rfl : k = 31 := by omega
      have HE : Hid (checkN ⟨[⟨tP, 0⟩], (trsB 31).map (·.1)⟩ = 0) := Lib.hid (by kernel_rfl)
      have hnet := hin.net
      obtain ⟨at_, ct, e2⟩ := own_form hin.tr
      have HN : Hid (NetAt wr (.slice (some ⟨w.heap.size, 0, none⟩) 1 1) vt ⟨[⟨tP, 0⟩], (trsB 31).map (·.1)⟩) := Lib.hid hnet
      replace e2 : vt = .slice at_ 32 ct := e2
      subst e2
      have Hin := Lib.hid hin
      have ha := awake_any wr
      clear hin hnet c0 c1 hsz
      go_wp2_with fail
      refine ha.mono ?_
      rintro e w5 ⟨rfl, hb5⟩
      obtain ⟨c0, c1, hsz⟩ := (Hin.out.go hb5).cells
      have Hin5 := Lib.hid (Hin.out.go hb5)
      have hck := check_at (n := ⟨[⟨tP, 0⟩], (trsB 31).map (·.1)⟩) rfl rfl (HN.out.below hb5) (by decide +kernel) HE.out
      clear hb5 ha
      go_wp2_with fail
      refine hck.mono ?_
      rintro e w6 ⟨rfl, hb6⟩
      have HB6 := Lib.hid (Hin5.out.go hb6).below
      clear hb6 hck
      go_wp2
      go_ret
      exact ⟨rfl, HB6.out⟩
set_option maxRecDepth 100000 in
set_option maxHeartbeats 2000000 in
theorem nb_11 (a : Nat) (ha : a < 256) (hk : (a : Int) % 6 = 1) (w : World) : Calls Try.prog 3 #[.int .u8 (a : Int), .bool true] w fun e w' => e = .returned (.bool true) ∧ Below w.heap.size w w' := by
  go_enter Try.func3, Try.ntmps3
  go_wp2
  go_loopw [9] (fun i wr => ∃ k : Nat, k ≤ 32 ∧ i = .int .i64 k ∧ ∃ vt, NB w wr (.slice (some ⟨w.heap.size, 0, none⟩) 1 1) vt [⟨tP, 0⟩] (trsB k)) (fun i _ => 32 - (intOf i).toNat)
  case atStart => exact ⟨0, by omega, rfl, _, NB.start w⟩
  case round =>
    obtain ⟨k, hk', rfl, vt, hin⟩ := hrel
    obtain ⟨c0, c1, hsz⟩ := hin.cells
    by_cases hlt : k < 32
    · have hlti : (k : Int) < 32 := by omega
      obtain ⟨m, hm⟩ : ∃ m, m = k % 26 := ⟨_, rfl⟩
      obtain ⟨d, hd'⟩ : ∃ d, d = k / 26 := ⟨_, rfl⟩
      have hmi : (k : Int) % 26 = (m : Int) := by omega
      have hdi : (k : Int) / 26 = (d : Int) := by omega
      have hm8 : IntKind.u8.wrap (97 + (m : Int)) = 97 + (m : Int) := u8_in _ (by omega) (by omega)
      have hd8 : IntKind.u8.wrap (97 + (d : Int)) = 97 + (d : Int) := u8_in _ (by omega) (by omega)
      have hcv := run_conv2 wr m d (by omega) (by omega)
      obtain ⟨sv, hsv⟩ : ∃ sv, sv = bs [UInt8.ofNat (97 + m), UInt8.ofNat (97 + d)] := ⟨_, rfl⟩
      rw [← hsv] at hcv
      obtain ⟨nm, hnm⟩ : ∃ z, z = nmB k := ⟨_, rfl⟩
      have q1 : ({ data := #[113] } : ByteArray) ++ sv = nm := by rw [hnm, hsv]; unfold nmB; rw [← bs_cat, ← hm, ← hd']; rfl
      have s0 : sv.size = 2 := by rw [hsv]; rfl
      obtain ⟨v2, w2, hr, ho2, hk2, hv2⟩ := run_push_tr 28 ((⟨nm, 0, 0, [], [], []⟩ : Tr), (Value.slice none 0 0), (Value.slice none 0 0), (Value.slice none 0 0)) (w := wr.alloc (.cells #[.int .u8 (97 + (m : Int)), .int .u8 (97 + (d : Int))] 5)) (hin.tr.alloc _) rfl rfl rfl (by rw [trsB_len]; omega) (by have := hin.below.size; simp; omega)
      obtain ⟨av2, nv2, cv2, rfl⟩ := own_form3 ho2
      obtain ⟨hin2, g1, g2, g3⟩ := hin.pushT ⟨rfl, rfl, rfl⟩ ((Below.refl _ _).alloc (Nat.le_refl _) _) ho2 hk2 hv2
      have Hin2 : Hid (NB w (w2.setCell ⟨w.heap.size + 2, 1, none⟩ (.slice av2 nv2 cv2)) (.slice (some ⟨w.heap.size, 0, none⟩) 1 1) (.slice av2 nv2 cv2) [⟨tP, 0⟩] (trsB (k + 1))) := Lib.hid (by rw [trsB_succ]; first | (rw [hnm] at hin2; exact hin2) | (unfold trB; rw [hnm] at hin2; exact hin2))
      rw [show ∀ (W : World) (o : Obj), (W.alloc o).heap.size = W.heap.size + 1 from fun W o => by simp] at hr
      clear hin hin2 ho2 hk2 hv2 hm hd' hsv hnm
      go_wp2_with (at_builtin; refine wpList_append_eq rfl (.tmp 62) (.tmp 75) 28 rfl rfl rfl hr ?_)
      go_roundw
      case rel => exact ⟨k + 1, by omega, by go_num, _, Hin2.out⟩
      case measure => simp [intOf]; omega
    · have hge : ¬ (k : Int) < 32 := by omega
      obtain rfl : k = 32 := by omega
      have HE : Hid (checkN ⟨[⟨tP, 0⟩], (trsB 32).map (·.1)⟩ = 5) := Lib.hid (by kernel_rfl)
      have hnet := hin.net
      obtain ⟨at_, ct, e2⟩ := own_form hin.tr
      have HN : Hid (NetAt wr (.slice (some ⟨w.heap.size, 0, none⟩) 1 1) vt ⟨[⟨tP, 0⟩], (trsB 32).map (·.1)⟩) := Lib.hid hnet
      replace e2 : vt = .slice at_ 33 ct := e2
      subst e2
      have Hin := Lib.hid hin
      have ha := awake_any wr
      clear hin hnet c0 c1 hsz
      go_wp2_with fail
      refine ha.mono ?_
      rintro e w5 ⟨rfl, hb5⟩
      obtain ⟨c0, c1, hsz⟩ := (Hin.out.go hb5).cells
      have Hin5 := Lib.hid (Hin.out.go hb5)
      have hck := check_at (n := ⟨[⟨tP, 0⟩], (trsB 32).map (·.1)⟩) rfl rfl (HN.out.below hb5) (by decide +kernel) HE.out
      clear hb5 ha
      go_wp2_with fail
      refine hck.mono ?_
      rintro e w6 ⟨rfl, hb6⟩
      have HB6 := Lib.hid (Hin5.out.go hb6).below
      clear hb6 hck
      go_wp2
      go_ret
      exact ⟨rfl, HB6.out⟩
end Go.Proofs.Ytoicmoodhblflaa
