/-
  Walks of the law NetBounds, where arcs are many: it returns true.
  Conditions: each theorem's own.
-/
import Derived.Test.YtoicmoodhblflaaNBoundsB
namespace Go.Proofs.Ytoicmoodhblflaa
open Go.RowKit
set_option linter.unusedVariables false

def nmD (k : Nat) : ByteArray := bs ([113] ++ [UInt8.ofNat (97 + k)])
def plsD (k : Nat) : List Pl := [⟨tP, 0⟩] ++ (List.range k).map (fun i => ⟨nmD i, 0⟩)
theorem plsD_succ (k : Nat) : plsD (k + 1) = plsD k ++ [⟨nmD k, 0⟩] := by simp [plsD, List.range_succ]
theorem plsD_len (k : Nat) : (plsD k).length = k + 1 := by simp [plsD]
def outD (k : Nat) : List (Int × Int) := (List.range k).map (fun (i : Nat) => ((i : Int), (1 : Int)))
theorem outD_succ (k : Nat) : outD (k + 1) = outD k ++ [((k : Int), 1)] := by simp [outD, List.range_succ]
theorem outD_len (k : Nat) : (outD k).length = k := by simp [outD]
def trD (v : Value) (k : Nat) : Tr × Value × Value × Value := (⟨tT, 0, 0, [], [], outD k⟩, .slice none 0 0, .slice none 0 0, v)

section
variable {w wr W w2 : World} {vp v3 u : Value} {ps : List Pl} {k : Nat}
theorem NB.out (h : NB w wr vp (.slice (some ⟨w.heap.size + 1, 0, none⟩) 1 1) ps [trD v3 k]) : OwnA w.heap.size wr v3 (outD k) ∧ wr.cell? ⟨w.heap.size + 1, 5, none⟩ = some v3 ∧ w.heap.size + 1 < wr.heap.size := by
  have h1 := h.all.own (arcRow v3 (outD k)) (by simp [netRows, arcRows, trD])
  have h2 := h.all.own (trRow (.slice (some ⟨w.heap.size + 1, 0, none⟩) 1 1) [trD v3 k]) (by simp [netRows])
  exact ⟨h1, boxRow.cell (b := w.heap.size + 1) (t := 27) (cs := [.string tT, .int .i64 0, .int .i64 0, .slice none 0 0, .slice none 0 0, v3]) h2 rfl, (Row.lt h2 (k := w.heap.size + 1) rfl).2⟩

theorem NB.pushO (h : NB w wr vp (.slice (some ⟨w.heap.size + 1, 0, none⟩) 1 1) ps [trD v3 k]) (h2 : OwnA w.heap.size w2 u (outD k ++ [((k : Int), 1)])) (hk : Kept (fun k => v3.ownBlock = some k) wr w2) (hv : u.ownBlock = v3.ownBlock ∨ u.ownBlock = some (wr.heap.size + 1)) :
    NB w (w2.setCell ⟨w.heap.size + 1, 5, none⟩ u) vp (.slice (some ⟨w.heap.size + 1, 0, none⟩) 1 1) ps [trD u (k + 1)] ∧ w2.cell? ⟨w.heap.size + 1, 5, none⟩ = some v3 ∧ w2.frozen? ⟨w.heap.size + 1, 5, none⟩ = false ∧ w.heap.size + 2 < w2.heap.size ∧ w2.cell? ⟨w.heap.size + 2, 1, none⟩ = some (.slice (some ⟨w.heap.size + 1, 0, none⟩) 1 1) := by
  have a1 : AllOwn w.heap.size w2 ([boxRow (w.heap.size + 2) 30 [vp, .slice (some ⟨w.heap.size + 1, 0, none⟩) 1 1], plRow vp ps, trRow (.slice (some ⟨w.heap.size + 1, 0, none⟩) 1 1) [trD v3 k], arcRow (.slice none 0 0) [], arcRow (.slice none 0 0) []] ++ arcRow u (outD k ++ [((k : Int), 1)]) :: []) :=
    AllOwn.swap (pre := [boxRow (w.heap.size + 2) 30 [vp, .slice (some ⟨w.heap.size + 1, 0, none⟩) 1 1], plRow vp ps, trRow (.slice (some ⟨w.heap.size + 1, 0, none⟩) 1 1) [trD v3 k], arcRow (.slice none 0 0) [], arcRow (.slice none 0 0) []]) (r := arcRow v3 (outD k)) (post := []) h.all hk h2 (by
      rcases hv with e | e
      · exact .inl e
      · exact .inr ⟨_, e, by omega⟩)
  have hb2 : (boxRow (w.heap.size + 1) 27 [.string tT, .int .i64 0, .int .i64 0, .slice none 0 0, .slice none 0 0, v3]).own w.heap.size w2 := a1.own (trRow (.slice (some ⟨w.heap.size + 1, 0, none⟩) 1 1) [trD v3 k]) (by simp)
  have a2 := AllOwn.storeAt (pre := [boxRow (w.heap.size + 2) 30 [vp, .slice (some ⟨w.heap.size + 1, 0, none⟩) 1 1], plRow vp ps]) (r := trRow (.slice (some ⟨w.heap.size + 1, 0, none⟩) 1 1) [trD v3 k]) (post := [arcRow (.slice none 0 0) [], arcRow (.slice none 0 0) [], arcRow u (outD k ++ [((k : Int), 1)])]) (b := w.heap.size + 1) (c := 1) a1 rfl 5 u (r' := trRow (.slice (some ⟨w.heap.size + 1, 0, none⟩) 1 1) [trD u (k + 1)]) rfl rfl rfl rfl rfl
  have hbn := a1.own (boxRow (w.heap.size + 2) 30 [vp, .slice (some ⟨w.heap.size + 1, 0, none⟩) 1 1]) (by simp)
  refine ⟨⟨?_, ?_⟩, boxRow.cell hb2 rfl, boxRow.froz hb2 5, (boxRow.lt hbn).2, boxRow.cell hbn rfl⟩
  · have e : boxRow (w.heap.size + 2) 30 [vp, .slice (some ⟨w.heap.size + 1, 0, none⟩) 1 1] :: netRows vp (.slice (some ⟨w.heap.size + 1, 0, none⟩) 1 1) ps [trD u (k + 1)] = [boxRow (w.heap.size + 2) 30 [vp, .slice (some ⟨w.heap.size + 1, 0, none⟩) 1 1], plRow vp ps] ++ trRow (.slice (some ⟨w.heap.size + 1, 0, none⟩) 1 1) [trD u (k + 1)] :: [arcRow (.slice none 0 0) [], arcRow (.slice none 0 0) [], arcRow u (outD k ++ [((k : Int), 1)])] := by
      rw [← outD_succ]; rfl
    rw [e]
    exact a2.1
  · have hk2 : Kept (fun k => w.heap.size ≤ k) wr (w2.setCell ⟨w.heap.size + 1, 5, none⟩ u) := (hk.mono (fun k _ e => (Row.lt (r := arcRow v3 (outD _)) h.out.1 e).1)).trans (a2.2.mono (fun k _ e => by omega))
    exact h.below.trans (hk2.below (fun k hk => hk) h.below.size)
end

set_option maxRecDepth 100000 in
set_option maxHeartbeats 2000000 in
theorem nb_20 (a : Nat) (ha : a < 256) (hk : (a : Int) % 6 = 2) (w : World) : Calls Try.prog 3 #[.int .u8 (a : Int), .bool false] w fun e w' => e = .returned (.bool true) ∧ Below w.heap.size w w' := by
  go_enter Try.func3, Try.ntmps3
  go_wp2
  go_loopw [10] (fun i wr => ∃ k : Nat, k ≤ 9 ∧ i = .int .i64 k ∧ ∃ vp, NB w wr vp (.slice (some ⟨w.heap.size + 1, 0, none⟩) 1 1) (plsD k) [nbT]) (fun i _ => 9 - (intOf i).toNat)
  case atStart => exact ⟨0, by omega, rfl, _, NB.start w⟩
  case round =>
    rename World => v1
    obtain ⟨k, hk', rfl, vp, hin⟩ := hrel
    obtain ⟨c0, c1, hsz⟩ := hin.cells
    by_cases hlt : k < 9
    · have hlti : (k : Int) < 9 := by omega
      have hm8 : IntKind.u8.wrap (97 + (k : Int)) = 97 + (k : Int) := u8_in _ (by omega) (by omega)
      have hcv := run_conv1 v1 k 97 (by omega)
      rw [show ((97 : Nat) : Int) = 97 from rfl] at hcv
      obtain ⟨sv, hsv⟩ : ∃ sv, sv = bs [UInt8.ofNat (97 + k)] := ⟨_, rfl⟩
      rw [← hsv] at hcv
      obtain ⟨nm, hnm⟩ : ∃ z, z = nmD k := ⟨_, rfl⟩
      have q1 : ({ data := #[113] } : ByteArray) ++ sv = nm := by rw [hnm, hsv]; unfold nmD; rw [← bs_cat]; rfl
      have s0 : sv.size = 1 := by rw [hsv]; rfl
      obtain ⟨v2, w2, hr, ho2, hk2, hv2⟩ := run_push_pl 24 ⟨nm, 0⟩ (w := v1.alloc (.cells #[.int .u8 (97 + (k : Int))] 5)) (hin.pl.alloc _) (by rw [plsD_len]; omega) (by have := hin.below.size; simp; omega)
      obtain ⟨av2, nv2, cv2, rfl⟩ := own_form3 ho2
      obtain ⟨hin2, g1, g2, g3⟩ := hin.pushP ((Below.refl _ _).alloc (Nat.le_refl _) _) ho2 hk2 hv2
      have Hin2 : Hid (NB w (w2.setCell ⟨w.heap.size + 2, 0, none⟩ (.slice av2 nv2 cv2)) (.slice av2 nv2 cv2) (.slice (some ⟨w.heap.size + 1, 0, none⟩) 1 1) (plsD (k + 1)) [nbT]) := Lib.hid (by rw [plsD_succ]; rw [hnm] at hin2; exact hin2)
      rw [show ∀ (W : World) (o : Obj), (W.alloc o).heap.size = W.heap.size + 1 from fun W o => by simp] at hr
      clear hin hin2 ho2 hk2 hv2 hsv hnm
      go_wp2_with (at_builtin; refine wpList_append_eq rfl (.tmp 85) (.tmp 93) 24 rfl rfl rfl hr ?_)
      go_roundw
      case rel => exact ⟨k + 1, by omega, by go_num, _, Hin2.out⟩
      case measure => simp [intOf]; omega
    · have hge : ¬ (k : Int) < 9 := by omega
      obtain rfl : k = 9 := by omega
      have Hin := Lib.hid hin
      clear hin
      go_wp2
      clear c0 c1 hsz
      go_loopw [11] (fun i wr => ∃ j : Nat, j ≤ 8 ∧ i = .int .i64 j ∧ ∃ v3, NB w wr vp (.slice (some ⟨w.heap.size + 1, 0, none⟩) 1 1) (plsD 9) [trD v3 j]) (fun i _ => 8 - (intOf i).toNat)
      case atStart => exact ⟨0, by omega, rfl, .slice none 0 0, Hin.out⟩
      case round =>
        rename World => wr
        obtain ⟨j, hj, rfl, v3, hin⟩ := hrel
        obtain ⟨c0, c1, hsz⟩ := hin.cells
        by_cases hlt : j < 8
        · have hlti : (j : Int) < 8 := by omega
          obtain ⟨ho, c5, hsz1⟩ := hin.out
          have hd := hin.go (Below.refl _ _).drew
          obtain ⟨u, w2, hr, ho2, hk2, hv2⟩ := run_push_arc 25 (j : Int) 1 hd.out.1 (by rw [outD_len]; omega) hd.below.size
          obtain ⟨av2, nv2, cv2, rfl⟩ := own_form3 ho2
          obtain ⟨hin2, g1, g2, g3, g4⟩ := hd.pushO ho2 hk2 hv2
          have Hin2 := Lib.hid hin2
          clear hin hin2 ho ho2 hk2 hv2 hd
          go_wp2
          go_region_law (first | (refine step_append_eq (by rfl) (.tmp 108) (.tmp 111) 25 (by rfl) (by rfl) (by rfl) hr ?_))
          all_goals
            clear hr g1 g2 g4 c5 c0 c1
            go_wp2
            go_roundw
            case rel => exact ⟨j + 1, by omega, by go_num, _, Hin2.out⟩
            case measure => simp [intOf]; omega
        · have hge : ¬ (j : Int) < 8 := by omega
          obtain rfl : j = 8 := by omega
          have HE : Hid (checkN ⟨plsD 9, [(⟨tT, 0, 0, [], [], outD 8⟩ : Tr)]⟩ = 0) := Lib.hid (by kernel_rfl)
          have hnet := hin.net
          obtain ⟨ap, cp, e1⟩ := own_form hin.pl
          have HN : Hid (NetAt wr vp (.slice (some ⟨w.heap.size + 1, 0, none⟩) 1 1) ⟨plsD 9, [(⟨tT, 0, 0, [], [], outD 8⟩ : Tr)]⟩) := Lib.hid hnet
          replace e1 : vp = .slice ap 10 cp := e1
          subst e1
          have Hin3 := Lib.hid hin
          have ha := awake_any wr
          clear hin hnet Hin
          go_wp2_with fail
          refine ha.mono ?_
          rintro e w5 ⟨rfl, hb5⟩
          clear c0 c1 hsz
          obtain ⟨c0, c1, hsz⟩ := (Hin3.out.go hb5).cells
          have Hin5 := Lib.hid (Hin3.out.go hb5)
          have hck := check_at (n := ⟨plsD 9, [(⟨tT, 0, 0, [], [], outD 8⟩ : Tr)]⟩) rfl rfl (HN.out.below hb5) (by decide +kernel) HE.out
          clear hb5 ha
          go_wp2_with fail
          refine hck.mono ?_
          rintro e w6 ⟨rfl, hb6⟩
          have HB6 := Lib.hid (Hin5.out.go hb6).below
          clear hb6 hck
          go_wp2
          go_ret
          exact ⟨rfl, HB6.out⟩
set_option maxRecDepth 100000 in
set_option maxHeartbeats 2000000 in
theorem nb_21 (a : Nat) (ha : a < 256) (hk : (a : Int) % 6 = 2) (w : World) : Calls Try.prog 3 #[.int .u8 (a : Int), .bool true] w fun e w' => e = .returned (.bool true) ∧ Below w.heap.size w w' := by
  go_enter Try.func3, Try.ntmps3
  go_wp2
  go_loopw [10] (fun i wr => ∃ k : Nat, k ≤ 9 ∧ i = .int .i64 k ∧ ∃ vp, NB w wr vp (.slice (some ⟨w.heap.size + 1, 0, none⟩) 1 1) (plsD k) [nbT]) (fun i _ => 9 - (intOf i).toNat)
  case atStart => exact ⟨0, by omega, rfl, _, NB.start w⟩
  case round =>
    rename World => v1
    obtain ⟨k, hk', rfl, vp, hin⟩ := hrel
    obtain ⟨c0, c1, hsz⟩ := hin.cells
    by_cases hlt : k < 9
    · have hlti : (k : Int) < 9 := by omega
      have hm8 : IntKind.u8.wrap (97 + (k : Int)) = 97 + (k : Int) := u8_in _ (by omega) (by omega)
      have hcv := run_conv1 v1 k 97 (by omega)
      rw [show ((97 : Nat) : Int) = 97 from rfl] at hcv
      obtain ⟨sv, hsv⟩ : ∃ sv, sv = bs [UInt8.ofNat (97 + k)] := ⟨_, rfl⟩
      rw [← hsv] at hcv
      obtain ⟨nm, hnm⟩ : ∃ z, z = nmD k := ⟨_, rfl⟩
      have q1 : ({ data := #[113] } : ByteArray) ++ sv = nm := by rw [hnm, hsv]; unfold nmD; rw [← bs_cat]; rfl
      have s0 : sv.size = 1 := by rw [hsv]; rfl
      obtain ⟨v2, w2, hr, ho2, hk2, hv2⟩ := run_push_pl 24 ⟨nm, 0⟩ (w := v1.alloc (.cells #[.int .u8 (97 + (k : Int))] 5)) (hin.pl.alloc _) (by rw [plsD_len]; omega) (by have := hin.below.size; simp; omega)
      obtain ⟨av2, nv2, cv2, rfl⟩ := own_form3 ho2
      obtain ⟨hin2, g1, g2, g3⟩ := hin.pushP ((Below.refl _ _).alloc (Nat.le_refl _) _) ho2 hk2 hv2
      have Hin2 : Hid (NB w (w2.setCell ⟨w.heap.size + 2, 0, none⟩ (.slice av2 nv2 cv2)) (.slice av2 nv2 cv2) (.slice (some ⟨w.heap.size + 1, 0, none⟩) 1 1) (plsD (k + 1)) [nbT]) := Lib.hid (by rw [plsD_succ]; rw [hnm] at hin2; exact hin2)
      rw [show ∀ (W : World) (o : Obj), (W.alloc o).heap.size = W.heap.size + 1 from fun W o => by simp] at hr
      clear hin hin2 ho2 hk2 hv2 hsv hnm
      go_wp2_with (at_builtin; refine wpList_append_eq rfl (.tmp 85) (.tmp 93) 24 rfl rfl rfl hr ?_)
      go_roundw
      case rel => exact ⟨k + 1, by omega, by go_num, _, Hin2.out⟩
      case measure => simp [intOf]; omega
    · have hge : ¬ (k : Int) < 9 := by omega
      obtain rfl : k = 9 := by omega
      have Hin := Lib.hid hin
      clear hin
      go_wp2
      clear c0 c1 hsz
      go_loopw [11] (fun i wr => ∃ j : Nat, j ≤ 9 ∧ i = .int .i64 j ∧ ∃ v3, NB w wr vp (.slice (some ⟨w.heap.size + 1, 0, none⟩) 1 1) (plsD 9) [trD v3 j]) (fun i _ => 9 - (intOf i).toNat)
      case atStart => exact ⟨0, by omega, rfl, .slice none 0 0, Hin.out⟩
      case round =>
        rename World => wr
        obtain ⟨j, hj, rfl, v3, hin⟩ := hrel
        obtain ⟨c0, c1, hsz⟩ := hin.cells
        by_cases hlt : j < 9
        · have hlti : (j : Int) < 9 := by omega
          obtain ⟨ho, c5, hsz1⟩ := hin.out
          have hd := hin.go (Below.refl _ _).drew
          obtain ⟨u, w2, hr, ho2, hk2, hv2⟩ := run_push_arc 25 (j : Int) 1 hd.out.1 (by rw [outD_len]; omega) hd.below.size
          obtain ⟨av2, nv2, cv2, rfl⟩ := own_form3 ho2
          obtain ⟨hin2, g1, g2, g3, g4⟩ := hd.pushO ho2 hk2 hv2
          have Hin2 := Lib.hid hin2
          clear hin hin2 ho ho2 hk2 hv2 hd
          go_wp2
          go_region_law (first | (refine step_append_eq (by rfl) (.tmp 108) (.tmp 111) 25 (by rfl) (by rfl) (by rfl) hr ?_))
          all_goals
            clear hr g1 g2 g4 c5 c0 c1
            go_wp2
            go_roundw
            case rel => exact ⟨j + 1, by omega, by go_num, _, Hin2.out⟩
            case measure => simp [intOf]; omega
        · have hge : ¬ (j : Int) < 9 := by omega
          obtain rfl : j = 9 := by omega
          have HE : Hid (checkN ⟨plsD 9, [(⟨tT, 0, 0, [], [], outD 9⟩ : Tr)]⟩ = 5) := Lib.hid (by kernel_rfl)
          have hnet := hin.net
          obtain ⟨ap, cp, e1⟩ := own_form hin.pl
          have HN : Hid (NetAt wr vp (.slice (some ⟨w.heap.size + 1, 0, none⟩) 1 1) ⟨plsD 9, [(⟨tT, 0, 0, [], [], outD 9⟩ : Tr)]⟩) := Lib.hid hnet
          replace e1 : vp = .slice ap 10 cp := e1
          subst e1
          have Hin3 := Lib.hid hin
          have ha := awake_any wr
          clear hin hnet Hin
          go_wp2_with fail
          refine ha.mono ?_
          rintro e w5 ⟨rfl, hb5⟩
          clear c0 c1 hsz
          obtain ⟨c0, c1, hsz⟩ := (Hin3.out.go hb5).cells
          have Hin5 := Lib.hid (Hin3.out.go hb5)
          have hck := check_at (n := ⟨plsD 9, [(⟨tT, 0, 0, [], [], outD 9⟩ : Tr)]⟩) rfl rfl (HN.out.below hb5) (by decide +kernel) HE.out
          clear hb5 ha
          go_wp2_with fail
          refine hck.mono ?_
          rintro e w6 ⟨rfl, hb6⟩
          have HB6 := Lib.hid (Hin5.out.go hb6).below
          clear hb6 hck
          go_wp2
          go_ret
          exact ⟨rfl, HB6.out⟩
end Go.Proofs.Ytoicmoodhblflaa
