/-
  What fire comes to: it is logged, its tokens are taken, what it gives is under way, and what is due arrives. What result comes to: the firings, the tokens, how many are under way to each place, the time. What instant comes to: what arrives, and then the firings, one by one. What upTo comes to: from time to time, up to the horizon. What plain.Run comes to: the run of a net that may be; the error of one that may not.
  Conditions: none beyond each theorem's own.
-/
import Derived.Test.YtpbbdnicafifpaaRunP
import Derived.Test.YtpbbdnicafifpaaNetW
import Derived.Deep.CutRange
import Derived.Deep.RegionHeld3
import Derived.Laws.ResultCell
/-! ## RunE -/
namespace Go.Proofs.Ytpbbdnicafifpaa
open Go.RowKit
set_option linter.unusedVariables false

theorem outs_take {t d : Int} {l : List (Int × Int)} {k : Nat} {a : Int × Int} (h : l[k]? = some a) : (outs t d l).take (k + 1) = (outs t d l).take k ++ [⟨t + d, a.1, a.2⟩] := by
  refine take_at ?_
  unfold outs
  rw [List.getElem?_map, h]; rfl
theorem outs_len (t d : Int) (l : List (Int × Int)) : (outs t d l).length = l.length := by unfold outs; simp

set_option maxRecDepth 100000 in
set_option maxHeartbeats 4000000 in
theorem fire_any {n : Nt} {w0 w : World} {b bm nm cm np nt cp ct i : Nat} {ap at_ : Option Addr} {t : Int} {s : St} {more : List Row} {x : Tr} (hn : NOk n) (hI : Inv n t s) (hnm : nm = s.m.length) (hnt : nt = n.trans.length) (hnet : NetAt w0 (.slice ap np cp) (.slice at_ nt ct) n) (hx : n.trans[i]? = some x) (hm : mayB s.m x.inn x.nt = true) (hl : s.log.length < 2000) (h : RunAt w0 w b (.slice ap np cp) (.slice at_ nt ct) bm nm cm t s more) :
    Calls Try.prog 106 #[.pointer (some ⟨b, 0, none⟩), .int .i64 i] w fun e w' => e = .returned (.bool true) ∧ RunAt w0 w' b (.slice ap np cp) (.slice at_ nt ct) bm nm cm t (fire t i x s) more := by
  have hF := fired_inv hn hI hx hm hl
  have hd := hn.dly x (hn.at_ hx)
  have hol := (hn.len x (hn.at_ hx)).2.2
  have hfit := (hn.fits hI.len) x (hn.at_ hx)
  have htb := hI.tb
  have hql := hI.ql
  obtain ⟨_, l, hl2, htr⟩ := hnet
  obtain ⟨g, off, a1, c1, a2, c2, a3, c3, rfl, hgw0, z0, z1, z2, z3, z4, z5, hA1, _, hA3⟩ := htr.at_ (i := i) (t := x) (by rw [hl2]; exact hx)
  have hlow := h.low
  have e0 := (below_cells hlow g _ hgw0).trans z0
  have e1 := (below_cells hlow g _ hgw0).trans z1
  have e2 := (below_cells hlow g _ hgw0).trans z2
  have e3 := (below_cells hlow g _ hgw0).trans z3
  have e4 := (below_cells hlow g _ hgw0).trans z4
  have e5 := (below_cells hlow g _ hgw0).trans z5
  have hgw : g < w.heap.size := Nat.lt_of_lt_of_le hgw0 hlow.size
  obtain ⟨k0, k1, _, _, kb, _⟩ := h.cells
  have hlt : i < nt := by rw [hnt]; exact lt_at hx
  have hlti : (i : Int) < (nt : Int) := by omega
  obtain ⟨dl, hdl⟩ : ∃ k, k = x.delay := ⟨_, rfl⟩
  obtain ⟨pr, hpr⟩ : ∃ k, k = x.prio := ⟨_, rfl⟩
  obtain ⟨sx, hsx⟩ : ∃ k, k = x.name := ⟨_, rfl⟩
  obtain ⟨n1, hn1⟩ : ∃ k, k = x.inn.length := ⟨_, rfl⟩
  obtain ⟨n2, hn2⟩ : ∃ k, k = x.nt.length := ⟨_, rfl⟩
  obtain ⟨n3, hn3⟩ : ∃ k, k = x.out.length := ⟨_, rfl⟩
  rw [← hdl] at e1 hd
  rw [← hpr] at e2
  rw [← hsx] at e0
  rw [← hn1] at e3 hA1
  rw [← hn2] at e4
  rw [← hn3] at e5 hA3 hol
  have hwrap : IntKind.i64.wrap (t + dl) = t + dl := IntWalk.i64_in _ (by have := hI.ll; omega)
  have H1 := Lib.hid (h.box #[.string sx, .int .i64 dl, .int .i64 pr, .slice a1 n1 c1, .slice a2 n2 c2, .slice a3 n3 c3] 79)
  have HF := Lib.hid hF
  have HL := Lib.hid (show (fired t i x s).m.length = nm by rw [hF.len, hnm, hI.len])
  have HA1 := Lib.hid hA1
  have HA3 := Lib.hid hA3
  have Hn1 := Lib.hid hn1
  have Hn3 := Lib.hid hn3
  have Hdl := Lib.hid hdl
  have Hfit := Lib.hid hfit.1
  have Hnm := Lib.hid hnm
  have Hw := Lib.hid hwrap
  have Hql := Lib.hid (show s.q.length ≤ 16000 by omega)
  have Hll := Lib.hid hl
  have Hol := Lib.hid hol
  clear hn hI hnm hnt hx hm hl h hF hd hol hfit htb hql hl2 htr z0 z1 z2 z3 z4 z5 hA1 hA3 hlow hgw0 hn1 hn2 hn3 hdl hpr hsx hwrap
  go_enter Try.func106, Try.ntmps106
  go_upto_region 2 with (fail)
  clear e0 e1 e2 e3 e4 e5 k0 k1 kb hgw
  obtain ⟨B1, hB1⟩ : ∃ k, k = w.heap.size := ⟨_, rfl⟩
  have H1' := H1.out
  rw [← hB1] at H1' ⊢
  clear H1 hB1
  revert H1'
  generalize w.alloc (.cells #[.string sx, .int .i64 dl, .int .i64 pr, .slice a1 n1 c1, .slice a2 n2 c2, .slice a3 n3 c3] 79) = W
  intro h1
  go_cut [] from 16 to 30 (fun wc => RunAt w0 wc b (.slice ap np cp) (.slice (some ⟨g, off, none⟩) nt ct) bm nm cm t ⟨s.log ++ [(t, (i : Int))], s.m, s.q⟩ (more ++ [boxRow B1 79 [.string sx, .int .i64 dl, .int .i64 pr, .slice a1 n1 c1, .slice a2 n2 c2, .slice a3 n3 c3]]))
  case first =>
    have h2 := h1.go (Below.refl _ _).drew
    obtain ⟨al, cl, k2, _⟩ := h1.log
    obtain ⟨_, _, _, k5, kb, _⟩ := h1.cells
    obtain ⟨a9, n9, c9, w6, hr, h6, q1, q2, q3⟩ := h2.pushF (by have := Hll.out; omega) 49 t (i : Int) (a := al) (c := cl) k2
    have H6 := Lib.hid h6
    obtain ⟨ll, hll⟩ : ∃ k, k = s.log.length := ⟨_, rfl⟩
    rw [← hll] at k2 hr q1
    clear h1 h2 h6 hll
    go_region_law (first | (refine step_append_eq (by rfl) (.tmp 20) (.tmp 27) 49 (by rfl) (by rfl) (by rfl) hr ?_))
    all_goals
      go_wp2
      go_meet
      case rel => exact H6.out
  case rest =>
    rename World => W2
    have h6 := hcut
    clear hcut h1
    go_upto_region 3 with (fail)
    go_cut [] from 31 to 36 (fun wc => RunAt w0 wc b (.slice ap np cp) (.slice (some ⟨g, off, none⟩) nt ct) bm nm cm t ⟨s.log ++ [(t, (i : Int))], takeL x.inn s.m, s.q ++ (outs t dl x.out).take 0⟩ (more ++ [boxRow B1 79 [.string sx, .int .i64 dl, .int .i64 pr, .slice a1 n1 c1, .slice a2 n2 c2, .slice a3 n3 c3]]))
    case first =>
      have hT := h6.mem (r := boxRow B1 79 [.string sx, .int .i64 dl, .int .i64 pr, .slice a1 n1 c1, .slice a2 n2 c2, .slice a3 n3 c3]) (by simp)
      have f0 := boxRow.cell hT (j := 0) rfl
      have f1 := boxRow.cell hT (j := 1) rfl
      have f2 := boxRow.cell hT (j := 2) rfl
      have f3 := boxRow.cell hT (j := 3) rfl
      have f4 := boxRow.cell hT (j := 4) rfl
      have f5 := boxRow.cell hT (j := 5) rfl
      have fl := (boxRow.lt hT).2
      obtain ⟨_, _, k3, _, kb, _, kbm, _⟩ := h6.cells
      have h7 := h6.go (Below.refl _ _).drew
      have hoff : 0 < n1 → OffBlock (.slice a1 n1 c1) bm := by
        intro h0 k hk
        obtain ⟨b', o', n', c', e, rfl⟩ := hk
        injection e with e _ _
        obtain ⟨p0, hp0⟩ := at_lt (l := x.inn) (k := 0) (by rw [← Hn1.out]; exact h0)
        obtain ⟨b2, o2, e2, hb2, _⟩ := ArcsAt.at_ HA1.out (x := p0.1) (y := p0.2) hp0
        rw [e] at e2
        injection e2 with e2
        injection e2 with e2
        omega
      have HT := Lib.hid (take_any (s := sx) (d := dl) (p := pr) (a2 := a2) (n2 := n2) (c2 := c2) (a3 := a3) (n3 := n3) (c3 := c3) Hn1.out Hnm.out (HA1.out.below h7.low) hoff h7.ints Hfit.out)
      have H7 := Lib.hid h7
      clear h6 hT hoff h7 kbm
      go_region_law (first | (go_simp; go_at_call 87; refine HT.out.mono ?_; rintro e w7 ⟨rfl, ho, hk⟩; have H8 := Lib.hid (H7.out.take ho hk); clear ho hk))
      all_goals
        clear f0 f1 f2 f3 f4 f5 fl k3 kb HT H7
        go_wp2
        go_meet
        case rel =>
          rw [List.take_zero, List.append_nil]; exact H8.out
    case rest =>
      rename World => W3
      have h9 := hcut
      clear hcut h6
      have hT := h9.mem (r := boxRow B1 79 [.string sx, .int .i64 dl, .int .i64 pr, .slice a1 n1 c1, .slice a2 n2 c2, .slice a3 n3 c3]) (by simp)
      have f5 := boxRow.cell hT (j := 5) rfl
      have fl := (boxRow.lt hT).2
      have H9 := Lib.hid h9
      clear h9 hT
      go_wp2
      clear f5 fl
      go_loopw [40] (fun i1 wr => ∃ k : Nat, k ≤ n3 ∧ i1 = .int .i64 k ∧ RunAt w0 wr b (.slice ap np cp) (.slice (some ⟨g, off, none⟩) nt ct) bm nm cm t ⟨s.log ++ [(t, (i : Int))], takeL x.inn s.m, s.q ++ (outs t dl x.out).take k⟩ (more ++ [boxRow B1 79 [.string sx, .int .i64 dl, .int .i64 pr, .slice a1 n1 c1, .slice a2 n2 c2, .slice a3 n3 c3]])) (fun i1 _ => n3 - (intOf i1).toNat)
      case atStart => exact ⟨0, by omega, rfl, H9.out⟩
      case round =>
        rename World => v1
        obtain ⟨k, hk, rfl, h10⟩ := hrel
        have hn8 := Hol.out
        by_cases hlt2 : k < n3
        · obtain ⟨⟨y1, y2⟩, hy⟩ := at_lt (l := x.out) (k := k) (by rw [← Hn3.out]; exact hlt2)
          have hlti2 : (k : Int) < (n3 : Int) := by omega
          obtain ⟨g3, o3, rfl, hg3, y3, y4⟩ := ArcsAt.at_ (HA3.out.below h10.low) hy
          have Hy := Lib.hid hy
          have H10 := Lib.hid h10
          clear h10 hy
          go_upto_region 7 with (fail)
          clear y3 y4 hg3
          obtain ⟨B2, hB2⟩ : ∃ k, k = v1.heap.size := ⟨_, rfl⟩
          have h11 := H10.out.box #[.int .i64 y1, .int .i64 y2] 76
          rw [← hB2] at h11 ⊢
          clear H10 hB2
          revert h11
          generalize v1.alloc (.cells #[.int .i64 y1, .int .i64 y2] 76) = W1
          intro h11
          have hT := h11.mem (r := boxRow B1 79 [.string sx, .int .i64 dl, .int .i64 pr, .slice a1 n1 c1, .slice a2 n2 c2, .slice (some ⟨g3, o3, none⟩) n3 c3]) (by simp)
          have f1 := boxRow.cell hT (j := 1) rfl
          have fl := (boxRow.lt hT).2
          have hY := h11.mem (r := boxRow B2 76 [.int .i64 y1, .int .i64 y2]) (by simp)
          have j0 := boxRow.cell hY (j := 0) rfl
          have j1 := boxRow.cell hY (j := 1) rfl
          have jl := (boxRow.lt hY).2
          obtain ⟨aq, cq, k4, _⟩ := h11.way
          obtain ⟨_, _, _, k5, kb, _⟩ := h11.cells
          have h12 := h11.go (Below.refl _ _).drew
          have hlen : (s.q ++ (outs t dl x.out).take k).length ≤ 1000000 := by
            rw [List.length_append, List.length_take, outs_len, ← Hn3.out]
            have := Hql.out; omega
          obtain ⟨a7, n7, c7, w8, hr8, h13, q1, q2, q3⟩ := h12.pushE hlen 70 ⟨IntKind.i64.wrap (t + dl), y1, y2⟩ (a := aq) (c := cq) k4
          simp only at hr8 k4 q1
          obtain ⟨lq, hlq⟩ : ∃ j, j = (s.q ++ (outs t dl x.out).take k).length := ⟨_, rfl⟩
          rw [← hlq] at k4 hr8 q1
          have h14 : RunAt w0 (w8.setCell ⟨b, 4, none⟩ (.slice a7 n7 c7)) b (.slice ap np cp) (.slice (some ⟨g, off, none⟩) nt ct) bm nm cm t ⟨s.log ++ [(t, (i : Int))], takeL x.inn s.m, s.q ++ (outs t dl x.out).take (k + 1)⟩ (more ++ [boxRow B1 79 [.string sx, .int .i64 dl, .int .i64 pr, .slice a1 n1 c1, .slice a2 n2 c2, .slice (some ⟨g3, o3, none⟩) n3 c3]]) := by
            rw [outs_take Hy.out, ← List.append_assoc]
            have h15 := h13.sub (more' := more ++ [boxRow B1 79 [.string sx, .int .i64 dl, .int .i64 pr, .slice a1 n1 c1, .slice a2 n2 c2, .slice (some ⟨g3, o3, none⟩) n3 c3]]) (List.sublist_append_left _ _)
            rw [Hw.out] at h15
            exact h15
          have H14 := Lib.hid h14
          obtain ⟨_, _, _, h5, _⟩ := h13.cells
          have hT3 := h13.mem (r := boxRow B1 79 [.string sx, .int .i64 dl, .int .i64 pr, .slice a1 n1 c1, .slice a2 n2 c2, .slice (some ⟨g3, o3, none⟩) n3 c3]) (by simp)
          have h1 := boxRow.cell hT3 (j := 1) rfl
          have hY3 := h13.mem (r := boxRow B2 76 [.int .i64 y1, .int .i64 y2]) (by simp)
          have h20 := boxRow.cell hY3 (j := 0) rfl
          have h21 := boxRow.cell hY3 (j := 1) rfl
          have g5 : w8.cell? ⟨b, 5, none⟩ = some (.int .i64 t) := by rw [← h5]; exact (World.cell?_setCell_other _ _ _ _ (by simp)).symm
          have g1 : w8.cell? ⟨B1, 1, none⟩ = some (.int .i64 dl) := by rw [← h1]; exact (World.cell?_setCell_other _ _ _ _ (by simp)).symm
          have g20 : w8.cell? ⟨B2, 0, none⟩ = some (.int .i64 y1) := by rw [← h20]; exact (World.cell?_setCell_other _ _ _ _ (by simp)).symm
          have g21 : w8.cell? ⟨B2, 1, none⟩ = some (.int .i64 y2) := by rw [← h21]; exact (World.cell?_setCell_other _ _ _ _ (by simp)).symm
          clear h11 h12 h13 h14 hT hY hlq hlen
          refine wp_region_held_drew (S := (fun w' : World => w'.cell? ⟨b, 5, none⟩ = some (.int .i64 t) ∧ w'.cell? ⟨B1, 1, none⟩ = some (.int .i64 dl) ∧ w'.cell? ⟨B2, 0, none⟩ = some (.int .i64 y1) ∧ w'.cell? ⟨B2, 1, none⟩ = some (.int .i64 y2))) (by kernel_rfl) ⟨k5, f1, j0, j1⟩ (fun hHeld => ?_)
          refine wpAnyH_take (i := 0) (oi := { dst := some 44, op := Op.move (Operand.tmp 0), type := 126, pos := "plain.go:112", after := #[], guard := none }) (v := ?_) rfl (by kernel_rfl) (by kernel_rfl) (by kernel_rfl) (fun _ _ _ h => h) (Or.inl ⟨by rfl, ?hy1⟩) (by assumption) ?rest1
          case hy1 =>
            intro w hSw
            try dsimp only at hSw
            go_simp
            all_goals with_reducible rfl
          try simp only [Act.put, List.setIfInBounds_toArray, List.set_cons_zero, List.set_cons_succ]
          refine wpAnyH_take (i := 1) (oi := { dst := some 45, op := Op.move (Operand.tmp 0), type := 126, pos := "plain.go:112", after := #[], guard := none }) (v := ?_) rfl (by kernel_rfl) (by kernel_rfl) (by kernel_rfl) (fun _ _ _ h => h) (Or.inl ⟨by rfl, ?hy2⟩) (by assumption) ?rest2
          case hy2 =>
            intro w hSw
            try dsimp only at hSw
            go_simp
            all_goals with_reducible rfl
          try simp only [Act.put, List.setIfInBounds_toArray, List.set_cons_zero, List.set_cons_succ]
          refine wpAnyH_take (i := 2) (oi := { dst := some 46, op := Op.nilCheck (Operand.tmp 45), type := 0, pos := "plain.go:112", after := #[{ on := 1, ground := Ground.data }], guard := none }) (v := ?_) rfl (by kernel_rfl) (by kernel_rfl) (by kernel_rfl) (fun _ _ _ h => h) (Or.inl ⟨by rfl, ?hy3⟩) (by assumption) ?rest3
          case hy3 =>
            intro w hSw
            try dsimp only at hSw
            go_simp
            all_goals with_reducible rfl
          try simp only [Act.put, List.setIfInBounds_toArray, List.set_cons_zero, List.set_cons_succ]
          refine wpAnyH_take (i := 3) (oi := { dst := some 47, op := Op.fieldAddr 100 (Operand.tmp 46) 3, type := 0, pos := "plain.go:112", after := #[{ on := 2, ground := Ground.data }], guard := none }) (v := ?_) rfl (by kernel_rfl) (by kernel_rfl) (by kernel_rfl) (fun _ _ _ h => h) (Or.inl ⟨by rfl, ?hy4⟩) (by assumption) ?rest4
          case hy4 =>
            intro w hSw
            try dsimp only at hSw
            go_simp
            all_goals with_reducible rfl
          try simp only [Act.put, List.setIfInBounds_toArray, List.set_cons_zero, List.set_cons_succ]
          refine wpAnyH_take (i := 5) (oi := { dst := some 49, op := Op.move (Operand.tmp 0), type := 126, pos := "plain.go:112", after := #[], guard := none }) (v := ?_) rfl (by kernel_rfl) (by kernel_rfl) (by kernel_rfl) (fun _ _ _ h => h) (Or.inl ⟨by rfl, ?hy5⟩) (by assumption) ?rest5
          case hy5 =>
            intro w hSw
            try dsimp only at hSw
            go_simp
            all_goals with_reducible rfl
          try simp only [Act.put, List.setIfInBounds_toArray, List.set_cons_zero, List.set_cons_succ]
          refine wpAnyH_take (i := 6) (oi := { dst := some 50, op := Op.nilCheck (Operand.tmp 49), type := 0, pos := "plain.go:112", after := #[{ on := 5, ground := Ground.data }], guard := none }) (v := ?_) rfl (by kernel_rfl) (by kernel_rfl) (by kernel_rfl) (fun _ _ _ h => h) (Or.inl ⟨by rfl, ?hy6⟩) (by assumption) ?rest6
          case hy6 =>
            intro w hSw
            try dsimp only at hSw
            go_simp
            all_goals with_reducible rfl
          try simp only [Act.put, List.setIfInBounds_toArray, List.set_cons_zero, List.set_cons_succ]
          refine wpAnyH_take (i := 7) (oi := { dst := some 51, op := Op.fieldAddr 100 (Operand.tmp 50) 4, type := 0, pos := "plain.go:112", after := #[{ on := 6, ground := Ground.data }], guard := none }) (v := ?_) rfl (by kernel_rfl) (by kernel_rfl) (by kernel_rfl) (fun _ _ _ h => h) (Or.inl ⟨by rfl, ?hy7⟩) (by assumption) ?rest7
          case hy7 =>
            intro w hSw
            try dsimp only at hSw
            go_simp
            all_goals with_reducible rfl
          try simp only [Act.put, List.setIfInBounds_toArray, List.set_cons_zero, List.set_cons_succ]
          refine wpAnyH_take (i := 8) (oi := { dst := some 52, op := Op.load 3 (Operand.tmp 51), type := 3, pos := "plain.go:112", after := #[{ on := 7, ground := Ground.data }], guard := none }) (v := ?_) rfl (by kernel_rfl) (by kernel_rfl) (by kernel_rfl) (fun _ _ _ h => h) (Or.inl ⟨by rfl, ?hy8⟩) (by assumption) ?rest8
          case hy8 =>
            intro w hSw
            try dsimp only at hSw
            go_simp
            all_goals with_reducible rfl
          try simp only [Act.put, List.setIfInBounds_toArray, List.set_cons_zero, List.set_cons_succ]
          refine wpAnyH_take (i := 9) (oi := { dst := some 53, op := Op.fieldAddr 79 (Operand.tmp 5) 1, type := 0, pos := "plain.go:112", after := #[], guard := none }) (v := ?_) rfl (by kernel_rfl) (by kernel_rfl) (by kernel_rfl) (fun _ _ _ h => h) (Or.inl ⟨by rfl, ?hy9⟩) (by assumption) ?rest9
          case hy9 =>
            intro w hSw
            try dsimp only at hSw
            go_simp
            all_goals with_reducible rfl
          try simp only [Act.put, List.setIfInBounds_toArray, List.set_cons_zero, List.set_cons_succ]
          refine wpAnyH_take (i := 10) (oi := { dst := some 54, op := Op.load 3 (Operand.tmp 53), type := 3, pos := "plain.go:112", after := #[{ on := 9, ground := Ground.data }], guard := none }) (v := ?_) rfl (by kernel_rfl) (by kernel_rfl) (by kernel_rfl) (fun _ _ _ h => h) (Or.inl ⟨by rfl, ?hy10⟩) (by assumption) ?rest10
          case hy10 =>
            intro w hSw
            try dsimp only at hSw
            go_simp
            all_goals with_reducible rfl
          try simp only [Act.put, List.setIfInBounds_toArray, List.set_cons_zero, List.set_cons_succ]
          refine wpAnyH_take (i := 11) (oi := { dst := some 55, op := Op.binOp BinOp.add 3 (Operand.tmp 52) (Operand.tmp 54) 3, type := 3, pos := "plain.go:112", after := #[{ on := 8, ground := Ground.data }, { on := 10, ground := Ground.data }], guard := none }) (v := ?_) rfl (by kernel_rfl) (by kernel_rfl) (by kernel_rfl) (fun _ _ _ h => h) (Or.inl ⟨by rfl, ?hy11⟩) (by assumption) ?rest11
          case hy11 =>
            intro w hSw
            try dsimp only at hSw
            go_simp
            all_goals with_reducible rfl
          try simp only [Act.put, List.setIfInBounds_toArray, List.set_cons_zero, List.set_cons_succ]
          refine wpAnyH_take (i := 12) (oi := { dst := some 56, op := Op.fieldAddr 76 (Operand.tmp 7) 0, type := 0, pos := "plain.go:112", after := #[], guard := none }) (v := ?_) rfl (by kernel_rfl) (by kernel_rfl) (by kernel_rfl) (fun _ _ _ h => h) (Or.inl ⟨by rfl, ?hy12⟩) (by assumption) ?rest12
          case hy12 =>
            intro w hSw
            try dsimp only at hSw
            go_simp
            all_goals with_reducible rfl
          try simp only [Act.put, List.setIfInBounds_toArray, List.set_cons_zero, List.set_cons_succ]
          refine wpAnyH_take (i := 13) (oi := { dst := some 57, op := Op.load 3 (Operand.tmp 56), type := 3, pos := "plain.go:112", after := #[{ on := 12, ground := Ground.data }], guard := none }) (v := ?_) rfl (by kernel_rfl) (by kernel_rfl) (by kernel_rfl) (fun _ _ _ h => h) (Or.inl ⟨by rfl, ?hy13⟩) (by assumption) ?rest13
          case hy13 =>
            intro w hSw
            try dsimp only at hSw
            go_simp
            all_goals with_reducible rfl
          try simp only [Act.put, List.setIfInBounds_toArray, List.set_cons_zero, List.set_cons_succ]
          refine wpAnyH_take (i := 14) (oi := { dst := some 58, op := Op.fieldAddr 76 (Operand.tmp 7) 1, type := 0, pos := "plain.go:112", after := #[], guard := none }) (v := ?_) rfl (by kernel_rfl) (by kernel_rfl) (by kernel_rfl) (fun _ _ _ h => h) (Or.inl ⟨by rfl, ?hy14⟩) (by assumption) ?rest14
          case hy14 =>
            intro w hSw
            try dsimp only at hSw
            go_simp
            all_goals with_reducible rfl
          try simp only [Act.put, List.setIfInBounds_toArray, List.set_cons_zero, List.set_cons_succ]
          refine wpAnyH_take (i := 15) (oi := { dst := some 59, op := Op.load 3 (Operand.tmp 58), type := 3, pos := "plain.go:112", after := #[{ on := 14, ground := Ground.data }], guard := none }) (v := ?_) rfl (by kernel_rfl) (by kernel_rfl) (by kernel_rfl) (fun _ _ _ h => h) (Or.inl ⟨by rfl, ?hy15⟩) (by assumption) ?rest15
          case hy15 =>
            intro w hSw
            try dsimp only at hSw
            go_simp
            all_goals with_reducible rfl
          try simp only [Act.put, List.setIfInBounds_toArray, List.set_cons_zero, List.set_cons_succ]
          refine wpAnyH_take (i := 16) (oi := { dst := some 60, op := Op.build 74 #[(0, Operand.tmp 55), (1, Operand.tmp 57), (2, Operand.tmp 59)], type := 74, pos := "plain.go:112", after := #[{ on := 11, ground := Ground.data }, { on := 13, ground := Ground.data }, { on := 15, ground := Ground.data }], guard := none }) (v := ?_) rfl (by kernel_rfl) (by kernel_rfl) (by kernel_rfl) (fun _ _ _ h => h) (Or.inl ⟨by rfl, ?hy16⟩) (by assumption) ?rest16
          case hy16 =>
            intro w hSw
            try dsimp only at hSw
            go_simp
            all_goals with_reducible rfl
          try simp only [Act.put, List.setIfInBounds_toArray, List.set_cons_zero, List.set_cons_succ]
          refine wpAnyH_ready (rs := [4, 17]) (by kernel_rfl) (by simp) ?_
          refine AllReadyH.cons (o := { dst := some 48, op := Op.load 70 (Operand.tmp 47), type := 70, pos := "plain.go:112", after := #[{ on := 3, ground := Ground.data }], guard := none }) rfl (fun K hK => ?step17) ?more17
          case step17 =>
            go_simp
            refine hK.out _ _ ?hs17 (fun hHeld => ?go17)
            case hs17 => assumption
            clear hK K
            try simp only [Act.put, List.setIfInBounds_toArray, List.set_cons_zero, List.set_cons_succ]
            refine wpAnyH_ready (rs := [17]) (by kernel_rfl) (by simp) ?_
            refine AllReadyH.cons (o := { dst := some 61, op := Op.buildSlice 70 1 #[(0, Operand.tmp 60)], type := 70, pos := "plain.go:112", after := #[{ on := 16, ground := Ground.data }], guard := none }) rfl (fun K hK => ?step18) ?more18
            case step18 =>
              go_simp
              refine hK.out _ _ ?hs18 (fun hHeld => ?go18)
              case hs18 => exact ⟨by go_simp, by go_simp, by go_simp, by go_simp⟩
              clear hK K
              try simp only [Act.put, List.setIfInBounds_toArray, List.set_cons_zero, List.set_cons_succ]
              refine wpAnyH_ready (rs := [18]) (by kernel_rfl) (by simp) ?_
              refine AllReadyH.cons (o := { dst := some 62, op := Op.call { callee := Callee.builtin Builtin.append, args := #[Operand.tmp 48, Operand.tmp 61], argTypes := #[70, 70] }, type := 70, pos := "plain.go:112", after := #[{ on := 4, ground := Ground.data }, { on := 17, ground := Ground.data }], guard := none }) rfl (fun K hK => ?step19) ?more19
              case step19 =>
                refine step_append_eq (by rfl) (.tmp 48) (.tmp 61) 70 (by rfl) (by rfl) (by rfl) hr8 ?_
                refine hK.out _ _ ?hs19 (fun hHeld => ?go19)
                case hs19 => exact ⟨g5, g1, g20, g21⟩
                clear hK K
                try simp only [Act.put, List.setIfInBounds_toArray, List.set_cons_zero, List.set_cons_succ]
                refine wpAnyH_ready (rs := [19]) (by kernel_rfl) (by simp) ?_
                refine AllReadyH.cons (o := { dst := some 63, op := Op.nilCheck (Operand.tmp 44), type := 0, pos := "plain.go:112", after := #[{ on := 0, ground := Ground.data }, { on := 0, ground := Ground.phase }, { on := 1, ground := Ground.phase }, { on := 2, ground := Ground.phase }, { on := 3, ground := Ground.phase }, { on := 4, ground := Ground.phase }, { on := 5, ground := Ground.phase }, { on := 6, ground := Ground.phase }, { on := 7, ground := Ground.phase }, { on := 8, ground := Ground.phase }, { on := 9, ground := Ground.phase }, { on := 10, ground := Ground.phase }, { on := 11, ground := Ground.phase }, { on := 12, ground := Ground.phase }, { on := 13, ground := Ground.phase }, { on := 14, ground := Ground.phase }, { on := 15, ground := Ground.phase }, { on := 16, ground := Ground.phase }, { on := 17, ground := Ground.phase }, { on := 18, ground := Ground.phase }], guard := none }) rfl (fun K hK => ?step20) ?more20
                case step20 =>
                  go_simp
                  refine hK.out _ _ ?hs20 (fun hHeld => ?go20)
                  case hs20 => assumption
                  clear hK K
                  try simp only [Act.put, List.setIfInBounds_toArray, List.set_cons_zero, List.set_cons_succ]
                  refine wpAnyH_ready (rs := [20]) (by kernel_rfl) (by simp) ?_
                  refine AllReadyH.cons (o := { dst := some 64, op := Op.fieldAddr 100 (Operand.tmp 63) 3, type := 0, pos := "plain.go:112", after := #[{ on := 19, ground := Ground.data }, { on := 0, ground := Ground.phase }, { on := 1, ground := Ground.phase }, { on := 2, ground := Ground.phase }, { on := 3, ground := Ground.phase }, { on := 4, ground := Ground.phase }, { on := 5, ground := Ground.phase }, { on := 6, ground := Ground.phase }, { on := 7, ground := Ground.phase }, { on := 8, ground := Ground.phase }, { on := 9, ground := Ground.phase }, { on := 10, ground := Ground.phase }, { on := 11, ground := Ground.phase }, { on := 12, ground := Ground.phase }, { on := 13, ground := Ground.phase }, { on := 14, ground := Ground.phase }, { on := 15, ground := Ground.phase }, { on := 16, ground := Ground.phase }, { on := 17, ground := Ground.phase }, { on := 18, ground := Ground.phase }], guard := none }) rfl (fun K hK => ?step21) ?more21
                  case step21 =>
                    go_simp
                    refine hK.out _ _ ?hs21 (fun hHeld => ?go21)
                    case hs21 => assumption
                    clear hK K
                    try simp only [Act.put, List.setIfInBounds_toArray, List.set_cons_zero, List.set_cons_succ]
                    refine wpAnyH_ready (rs := [21]) (by kernel_rfl) (by simp) ?_
                    refine AllReadyH.cons (o := { dst := none, op := Op.store 70 (Operand.tmp 64) (Operand.tmp 62), type := 0, pos := "plain.go:112", after := #[{ on := 20, ground := Ground.data }, { on := 18, ground := Ground.data }, { on := 18, ground := Ground.chain }, { on := 0, ground := Ground.phase }, { on := 1, ground := Ground.phase }, { on := 2, ground := Ground.phase }, { on := 3, ground := Ground.phase }, { on := 4, ground := Ground.phase }, { on := 5, ground := Ground.phase }, { on := 6, ground := Ground.phase }, { on := 7, ground := Ground.phase }, { on := 8, ground := Ground.phase }, { on := 9, ground := Ground.phase }, { on := 10, ground := Ground.phase }, { on := 11, ground := Ground.phase }, { on := 12, ground := Ground.phase }, { on := 13, ground := Ground.phase }, { on := 14, ground := Ground.phase }, { on := 15, ground := Ground.phase }, { on := 16, ground := Ground.phase }, { on := 17, ground := Ground.phase }, { on := 18, ground := Ground.phase }], guard := none }) rfl (fun K hK => ?step22) ?more22
                    case step22 =>
                      go_simp
                      refine hK.out _ _ ?hs22 (fun hHeld => ?go22)
                      case hs22 => exact ⟨h5, h1, h20, h21⟩
                      clear hK K
                      try simp only [Act.put, List.setIfInBounds_toArray, List.set_cons_zero, List.set_cons_succ]
                      refine wpAnyH_done (by kernel_rfl) ?_ _
                      clear hHeld hr8 k4 k5 kb q1 q2 q3 f1 fl j0 j1 jl g5 g1 g20 g21 h5 h1 h20 h21
                      go_wp2
                      go_roundw
                      case rel => exact ⟨k + 1, by omega, by go_num, H14.out⟩
                      case measure => simp [intOf]; omega
                    case more22 => exact AllReadyH.nil
                  case more21 => exact AllReadyH.nil
                case more20 => exact AllReadyH.nil
              case more19 => exact AllReadyH.nil
            case more18 => exact AllReadyH.nil
          case more17 =>
            refine AllReadyH.cons (o := { dst := some 61, op := Op.buildSlice 70 1 #[(0, Operand.tmp 60)], type := 70, pos := "plain.go:112", after := #[{ on := 16, ground := Ground.data }], guard := none }) rfl (fun K hK => ?step23) ?more23
            case step23 =>
              go_simp
              refine hK.out _ _ ?hs23 (fun hHeld => ?go23)
              case hs23 => exact ⟨by go_simp, by go_simp, by go_simp, by go_simp⟩
              clear hK K
              try simp only [Act.put, List.setIfInBounds_toArray, List.set_cons_zero, List.set_cons_succ]
              refine wpAnyH_ready (rs := [4]) (by kernel_rfl) (by simp) ?_
              refine AllReadyH.cons (o := { dst := some 48, op := Op.load 70 (Operand.tmp 47), type := 70, pos := "plain.go:112", after := #[{ on := 3, ground := Ground.data }], guard := none }) rfl (fun K hK => ?step24) ?more24
              case step24 =>
                go_simp
                refine hK.out _ _ ?hs24 (fun hHeld => ?go24)
                case hs24 => assumption
                clear hK K
                try simp only [Act.put, List.setIfInBounds_toArray, List.set_cons_zero, List.set_cons_succ]
                refine wpAnyH_ready (rs := [18]) (by kernel_rfl) (by simp) ?_
                refine AllReadyH.cons (o := { dst := some 62, op := Op.call { callee := Callee.builtin Builtin.append, args := #[Operand.tmp 48, Operand.tmp 61], argTypes := #[70, 70] }, type := 70, pos := "plain.go:112", after := #[{ on := 4, ground := Ground.data }, { on := 17, ground := Ground.data }], guard := none }) rfl (fun K hK => ?step25) ?more25
                case step25 =>
                  refine step_append_eq (by rfl) (.tmp 48) (.tmp 61) 70 (by rfl) (by rfl) (by rfl) hr8 ?_
                  refine hK.out _ _ ?hs25 (fun hHeld => ?go25)
                  case hs25 => exact ⟨g5, g1, g20, g21⟩
                  clear hK K
                  try simp only [Act.put, List.setIfInBounds_toArray, List.set_cons_zero, List.set_cons_succ]
                  refine wpAnyH_ready (rs := [19]) (by kernel_rfl) (by simp) ?_
                  refine AllReadyH.cons (o := { dst := some 63, op := Op.nilCheck (Operand.tmp 44), type := 0, pos := "plain.go:112", after := #[{ on := 0, ground := Ground.data }, { on := 0, ground := Ground.phase }, { on := 1, ground := Ground.phase }, { on := 2, ground := Ground.phase }, { on := 3, ground := Ground.phase }, { on := 4, ground := Ground.phase }, { on := 5, ground := Ground.phase }, { on := 6, ground := Ground.phase }, { on := 7, ground := Ground.phase }, { on := 8, ground := Ground.phase }, { on := 9, ground := Ground.phase }, { on := 10, ground := Ground.phase }, { on := 11, ground := Ground.phase }, { on := 12, ground := Ground.phase }, { on := 13, ground := Ground.phase }, { on := 14, ground := Ground.phase }, { on := 15, ground := Ground.phase }, { on := 16, ground := Ground.phase }, { on := 17, ground := Ground.phase }, { on := 18, ground := Ground.phase }], guard := none }) rfl (fun K hK => ?step26) ?more26
                  case step26 =>
                    go_simp
                    refine hK.out _ _ ?hs26 (fun hHeld => ?go26)
                    case hs26 => assumption
                    clear hK K
                    try simp only [Act.put, List.setIfInBounds_toArray, List.set_cons_zero, List.set_cons_succ]
                    refine wpAnyH_ready (rs := [20]) (by kernel_rfl) (by simp) ?_
                    refine AllReadyH.cons (o := { dst := some 64, op := Op.fieldAddr 100 (Operand.tmp 63) 3, type := 0, pos := "plain.go:112", after := #[{ on := 19, ground := Ground.data }, { on := 0, ground := Ground.phase }, { on := 1, ground := Ground.phase }, { on := 2, ground := Ground.phase }, { on := 3, ground := Ground.phase }, { on := 4, ground := Ground.phase }, { on := 5, ground := Ground.phase }, { on := 6, ground := Ground.phase }, { on := 7, ground := Ground.phase }, { on := 8, ground := Ground.phase }, { on := 9, ground := Ground.phase }, { on := 10, ground := Ground.phase }, { on := 11, ground := Ground.phase }, { on := 12, ground := Ground.phase }, { on := 13, ground := Ground.phase }, { on := 14, ground := Ground.phase }, { on := 15, ground := Ground.phase }, { on := 16, ground := Ground.phase }, { on := 17, ground := Ground.phase }, { on := 18, ground := Ground.phase }], guard := none }) rfl (fun K hK => ?step27) ?more27
                    case step27 =>
                      go_simp
                      refine hK.out _ _ ?hs27 (fun hHeld => ?go27)
                      case hs27 => assumption
                      clear hK K
                      try simp only [Act.put, List.setIfInBounds_toArray, List.set_cons_zero, List.set_cons_succ]
                      refine wpAnyH_ready (rs := [21]) (by kernel_rfl) (by simp) ?_
                      refine AllReadyH.cons (o := { dst := none, op := Op.store 70 (Operand.tmp 64) (Operand.tmp 62), type := 0, pos := "plain.go:112", after := #[{ on := 20, ground := Ground.data }, { on := 18, ground := Ground.data }, { on := 18, ground := Ground.chain }, { on := 0, ground := Ground.phase }, { on := 1, ground := Ground.phase }, { on := 2, ground := Ground.phase }, { on := 3, ground := Ground.phase }, { on := 4, ground := Ground.phase }, { on := 5, ground := Ground.phase }, { on := 6, ground := Ground.phase }, { on := 7, ground := Ground.phase }, { on := 8, ground := Ground.phase }, { on := 9, ground := Ground.phase }, { on := 10, ground := Ground.phase }, { on := 11, ground := Ground.phase }, { on := 12, ground := Ground.phase }, { on := 13, ground := Ground.phase }, { on := 14, ground := Ground.phase }, { on := 15, ground := Ground.phase }, { on := 16, ground := Ground.phase }, { on := 17, ground := Ground.phase }, { on := 18, ground := Ground.phase }], guard := none }) rfl (fun K hK => ?step28) ?more28
                      case step28 =>
                        go_simp
                        refine hK.out _ _ ?hs28 (fun hHeld => ?go28)
                        case hs28 => exact ⟨h5, h1, h20, h21⟩
                        clear hK K
                        try simp only [Act.put, List.setIfInBounds_toArray, List.set_cons_zero, List.set_cons_succ]
                        refine wpAnyH_done (by kernel_rfl) ?_ _
                        clear hHeld hr8 k4 k5 kb q1 q2 q3 f1 fl j0 j1 jl g5 g1 g20 g21 h5 h1 h20 h21
                        go_wp2
                        go_roundw
                        case rel => exact ⟨k + 1, by omega, by go_num, H14.out⟩
                        case measure => simp [intOf]; omega
                      case more28 => exact AllReadyH.nil
                    case more27 => exact AllReadyH.nil
                  case more26 => exact AllReadyH.nil
                case more25 => exact AllReadyH.nil
              case more24 => exact AllReadyH.nil
            case more23 => exact AllReadyH.nil
        · have hge2 : ¬ (k : Int) < (n3 : Int) := by omega
          have h16 : RunAt w0 v1 b (.slice ap np cp) (.slice (some ⟨g, off, none⟩) nt ct) bm nm cm t (fired t i x s) (more ++ [boxRow B1 79 [.string sx, .int .i64 dl, .int .i64 pr, .slice a1 n1 c1, .slice a2 n2 c2, .slice a3 n3 c3]]) := by
            rw [List.take_of_length_le (by rw [outs_len, ← Hn3.out]; omega)] at h10
            unfold fired
            rw [← Hdl.out]
            exact h10
          have HR := Lib.hid (arrive_any HF.out HL.out.symm h16)
          clear h10 h16
          go_wp2_with (go_at_call 103; refine HR.out.mono ?_; rintro e w9 ⟨rfl, h17⟩; have H17 := Lib.hid h17; clear h17)
          go_ret
          exact ⟨rfl, H17.out.sub (List.sublist_append_left _ _)⟩
end Go.Proofs.Ytpbbdnicafifpaa

/-! ## RunF -/
namespace Go.Proofs.Ytpbbdnicafifpaa
open Go.RowKit
set_option linter.unusedVariables false

def resV (vl vm vw : Value) (t : Int) : Value := .agg #[vl, vm, vw, .int .i64 t]
/-- what a run answers -/
def ResAt (w : World) (vl vm vw : Value) (s : St) : Prop := FisAt w vl s.log ∧ IntsAt w vm s.m ∧ IntsAt w vw (wayL s.m.length s.q)

theorem wayL_take {P : Nat} {q : List Ev} {k : Nat} {e : Ev} (h : q[k]? = some e) : wayL P (q.take (k + 1)) = addE (wayL P (q.take k)) e := by
  unfold wayL; rw [take_at h, List.foldl_append]; rfl
theorem wayL_len (P : Nat) (q : List Ev) : (wayL P q).length = P := by unfold wayL; rw [foldE_len]; simp
theorem pos_zeros (P : Nat) : Pos (List.replicate P (0 : Int)) := fun z hz => by rw [List.eq_of_mem_replicate hz]; exact Int.le_refl _
theorem tot_zeros : ∀ P : Nat, tot (List.replicate P (0 : Int)) = 0
  | 0 => rfl
  | P + 1 => by rw [List.replicate_succ, tot, tot_zeros P]; rfl
theorem way_next {n : Nt} {t : Int} {s : St} (h : Inv n t s) {k : Nat} {e : Ev} (hk : s.q[k]? = some e) :
    ∃ p : Nat, e.place = p ∧ p < s.m.length ∧ ∃ z, (wayL s.m.length (s.q.take k))[p]? = some z ∧ 0 ≤ z ∧ 1 ≤ e.n ∧ z + e.n ≤ 1099511627776 ∧ wayL s.m.length (s.q.take (k + 1)) = (wayL s.m.length (s.q.take k)).set p (z + e.n) := by
  have hok := h.evs e (List.mem_of_getElem? hk)
  have hd1 : ∀ x ∈ s.q.take k, EvOk (List.replicate s.m.length (0 : Int)).length x := fun x hx => by rw [List.length_replicate, h.len]; exact h.evs x (List.mem_of_mem_take hx)
  have hl := wayL_len s.m.length (s.q.take k)
  have hp1 : e.place.toNat < s.m.length := by rw [h.len]; have := hok.1; omega
  have hz := getI_some (m := wayL s.m.length (s.q.take k)) (x := e.place) hok.1.1 (by rw [hl, h.len]; exact hok.1.2)
  have hpos : Pos (wayL s.m.length (s.q.take k)) := foldE_pos _ _ (pos_zeros _) hd1
  refine ⟨e.place.toNat, by have := hok.1; omega, hp1, _, hz, hpos.at_ hz, hok.2, ?_, ?_⟩
  · have h1 := le_tot _ _ _ hpos hz
    have h2 : tot (wayL s.m.length (s.q.take k)) = tot (List.replicate s.m.length (0 : Int)) + totE (s.q.take k) := foldE_tot _ _ hd1
    rw [tot_zeros] at h2
    have h5 : totE s.q = totE (s.q.take k) + (e.n + totE (s.q.drop (k + 1))) := by
      conv => lhs; rw [(List.take_append_drop k s.q).symm, drop_at hk, totE_append]
      rfl
    have h6 : 0 ≤ totE (s.q.drop (k + 1)) := totE_pos _ (fun x hx => h.evs x (List.mem_of_mem_drop hx))
    have h7 := h.sum
    have h8 := h.ll
    have h9 := tot_pos _ h.pos
    omega
  · rw [wayL_take hk]; rfl

theorem res_ret (W : World) (R : Nat) (v0 v1 v2 v3 : Value) (h0 : W.cell? ⟨R, 0, none⟩ = some v0) (h1 : W.cell? ⟨R, 1, none⟩ = some v1) (h2 : W.cell? ⟨R, 2, none⟩ = some v2) (h3 : W.cell? ⟨R, 3, none⟩ = some v3) (tmps : Array Value) (ht : tmps[2]?.getD undef = .pointer (some ⟨R, 0, none⟩)) :
    (results Try.f56 tmps).run Try.prog W = .ok (.agg #[v0, v1, v2, v3]) W := by
  simp [results, Try.results56, go_sem, ht, h0, h1, h2, h3]

set_option maxRecDepth 100000 in
set_option maxHeartbeats 4000000 in
theorem result_any {n : Nt} {w0 w : World} {b bm nm cm : Nat} {vp vt : Value} {t : Int} {s : St} {more : List Row} (hn : NOk n) (hI : Inv n t s) (hnm : nm = s.m.length) (h : RunAt w0 w b vp vt bm nm cm t s more) :
    Calls Try.prog 56 #[.pointer (some ⟨b, 0, none⟩)] w fun e w' => ∃ al cl bw, e = .returned (resV (.slice al s.log.length cl) (.slice (some ⟨bm, 0, none⟩) nm cm) (.slice (some ⟨bw, 0, none⟩) nm nm) t) ∧ w.cell? ⟨b, 2, none⟩ = some (.slice al s.log.length cl) ∧ OwnI w.heap.size w' (.slice (some ⟨bw, 0, none⟩) nm nm) (wayL s.m.length s.q) ∧ Below w.heap.size w w' := by
  obtain ⟨al, cl, k2, hF⟩ := h.log
  obtain ⟨aq, cq, k4, hE⟩ := h.way
  obtain ⟨_, _, k3, k5, kb, _⟩ := h.cells
  have hM := h.ints
  have hql := hI.ql
  have hll := hI.ll
  have hP := hI.len
  obtain ⟨nq, hnq⟩ : ∃ k, k = s.q.length := ⟨_, rfl⟩
  obtain ⟨ll, hlle⟩ : ∃ k, k = s.log.length := ⟨_, rfl⟩
  have hmax : nq ≤ 16000 := by omega
  have hmaxl : ll ≤ 2000 := by omega
  rw [← hnq] at k4
  rw [← hlle] at k2 ⊢
  have K2 := Lib.hid k2
  have HE : Hid (EvsAt w (.slice aq nq cq) s.q) := Lib.hid (by rw [hnq]; exact RowAt.of_own hE)
  have hnp : nm ≤ 1000000 := by have := hn.pl; omega
  have HI := Lib.hid hI
  have Hnq := Lib.hid hnq
  have Hnm := Lib.hid hnm
  obtain ⟨w1, hmk, ho1, hb1⟩ := run_make_ints nm hnp (w.alloc (.cells #[.slice none 0 0, .slice none 0 0, .slice none 0 0, .int .i64 0] 51))
  rw [show (w.alloc (.cells #[.slice none 0 0, .slice none 0 0, .slice none 0 0, .int .i64 0] 51)).heap.size = w.heap.size + 1 by simp] at ho1 hmk hb1
  have hall : AllOwn w.heap.size w1 [boxRow w.heap.size 51 [.slice none 0 0, .slice none 0 0, .slice none 0 0, .int .i64 0], intRow (.slice (some ⟨w.heap.size + 1, 0, none⟩) nm nm) (wayL s.m.length (s.q.take 0))] := by
    have h1 := (AllOwn.nil w.heap.size w).add ((Below.refl _ _).alloc (Nat.le_refl _) _) (boxRow.new w.heap.size w 51 #[.slice none 0 0, .slice none 0 0, .slice none 0 0, .int .i64 0] (Nat.le_refl _)) (fun k e => by injection e with e; subst e; exact Nat.le_refl _)
    have h2 := h1.add (by simpa using hb1) (r := intRow (.slice (some ⟨w.heap.size + 1, 0, none⟩) nm nm) (wayL s.m.length (s.q.take 0))) (own_mono (by rw [List.take_zero, hnm] at *; exact ho1) (by omega)) (fun k e => by injection e with e; subst e; simp)
    exact h2
  have hbw : Below w.heap.size w w1 := ((Below.refl _ _).alloc (Nat.le_refl _) _).trans (hb1.mono (by omega))
  have d4 : w1.cell? ⟨b, 4, none⟩ = some (.slice aq nq cq) := (below_cells hbw b 4 kb).trans k4
  have Hall := Lib.hid hall
  have Hbw := Lib.hid hbw
  have hbn : ¬ w.heap.size = b := by omega
  clear hI hn hnm h hF hE hM hql hll hP hnq hlle hnp ho1 hall hb1 hbw
  go_enter Try.func56, Try.ntmps56
  go_wp2
  clear d4 hmk
  go_loopw [17] (fun i wr => ∃ k : Nat, k ≤ nq ∧ i = .int .i64 k ∧ AllOwn w.heap.size wr [boxRow w.heap.size 51 [.slice none 0 0, .slice none 0 0, .slice none 0 0, .int .i64 0], intRow (.slice (some ⟨w.heap.size + 1, 0, none⟩) nm nm) (wayL s.m.length (s.q.take k))] ∧ Below w.heap.size w wr) (fun i _ => nq - (intOf i).toNat)
  case atStart => exact ⟨0, by omega, rfl, Hall.out, Hbw.out⟩
  case round =>
    rename World => v1
    obtain ⟨k, hk, rfl, hal, hbl⟩ := hrel
    by_cases hlt : k < nq
    · obtain ⟨x, hx⟩ := at_lt (l := s.q) (k := k) (by rw [← Hnq.out]; exact hlt)
      have hlti : (k : Int) < (nq : Int) := by omega
      obtain ⟨g, off, rfl, hgw, e0, e1, e2⟩ := (HE.out.below hbl).at_ hx
      obtain ⟨p, hp0, hpl, z, hz, hz0, hn1, hz1, hset⟩ := way_next HI.out hx
      obtain ⟨xt, xp, xn⟩ := x
      simp only at e0 e1 e2 hp0 hn1 hz1 hset
      subst hp0
      have ho : OwnI w.heap.size v1 (.slice (some ⟨w.heap.size + 1, 0, none⟩) nm nm) (wayL s.m.length (s.q.take k)) := hal.own (intRow (.slice (some ⟨w.heap.size + 1, 0, none⟩) nm nm) (wayL s.m.length (s.q.take k))) (by simp)
      have hbv := ho.lt.2
      have c0 := ho.cell hz
      have f0 := ho.froz p
      have hpn : p < nm := by rw [Hnm.out]; exact hpl
      have hpi : (p : Int) < (nm : Int) := by omega
      have hst := ho.set p (wrap64 (z + xn)) (by rw [wayL_len]; exact hpl)
      rw [show (wayL s.m.length (s.q.take k)).set p (wrap64 (z + xn)) = wayL s.m.length (s.q.take (k + 1)) by rw [hset, IntWalk.wrap64_in _ (by omega)]] at hst
      have hA2 := AllOwn.swap (pre := [boxRow w.heap.size 51 [.slice none 0 0, .slice none 0 0, .slice none 0 0, .int .i64 0]]) (r := intRow (.slice (some ⟨w.heap.size + 1, 0, none⟩) nm nm) (wayL s.m.length (s.q.take k))) (r' := intRow (.slice (some ⟨w.heap.size + 1, 0, none⟩) nm nm) (wayL s.m.length (s.q.take (k + 1)))) (post := []) hal (hst.2.mono (fun j _ e => by subst e; rfl)) hst.1 (.inl rfl)
      have hb2 := hbl.trans (hst.2.below (fun j e => by omega) hbl.size)
      have hnew : Below (v1.setCell ⟨w.heap.size + 1, p, none⟩ (.int .i64 (wrap64 (z + xn)))).heap.size (v1.setCell ⟨w.heap.size + 1, p, none⟩ (.int .i64 (wrap64 (z + xn)))) ((v1.setCell ⟨w.heap.size + 1, p, none⟩ (.int .i64 (wrap64 (z + xn)))).alloc (.cells #[.int .i64 xt, .int .i64 (p : Int), .int .i64 xn] 74)).drew := ((Below.refl _ _).alloc (Nat.le_refl _) _).drew
      have HA2 := Lib.hid (hA2.below hnew)
      have HB2 := Lib.hid (hb2.trans (hnew.mono hb2.size))
      clear hx hz hz0 hz1 hn1 hset ho hst hA2 hb2 hnew hal hbl
      go_wp2
      go_region
      go_wp2
      go_roundw
      case rel => exact ⟨k + 1, by omega, by go_num, HA2.out, HB2.out⟩
      case measure => simp [intOf]; omega
    · have hge : ¬ (k : Int) < (nq : Int) := by omega
      rw [List.take_of_length_le (by rw [← Hnq.out]; omega)] at hal
      have d2 : v1.cell? ⟨b, 2, none⟩ = some (.slice al ll cl) := (below_cells hbl b 2 kb).trans k2
      have d3 : v1.cell? ⟨b, 3, none⟩ = some (.slice (some ⟨bm, 0, none⟩) nm cm) := (below_cells hbl b 3 kb).trans k3
      have d5 : v1.cell? ⟨b, 5, none⟩ = some (.int .i64 t) := (below_cells hbl b 5 kb).trans k5
      have hB := hal.own (boxRow w.heap.size 51 [.slice none 0 0, .slice none 0 0, .slice none 0 0, .int .i64 0]) (by simp)
      have r0 := boxRow.cell hB (j := 0) rfl
      have r1 := boxRow.cell hB (j := 1) rfl
      have r2 := boxRow.cell hB (j := 2) rfl
      have r3 := boxRow.cell hB (j := 3) rfl
      have rl := (boxRow.lt hB).2
      have q0 := boxRow.froz hB 0
      have q1 := boxRow.froz hB 1
      have q2 := boxRow.froz hB 2
      have q3 := boxRow.froz hB 3
      have kb1 : b < v1.heap.size := Nat.lt_of_lt_of_le kb hbl.size
      have hs1 := AllOwn.store (pre := []) (b := w.heap.size) (t := 51) (cs := [.slice none 0 0, .slice none 0 0, .slice none 0 0, .int .i64 0]) (hal.below (Below.refl _ _).drew) 0 (.slice al ll cl)
      have hs2 := AllOwn.store (pre := []) (b := w.heap.size) (t := 51) hs1.1 1 (.slice (some ⟨bm, 0, none⟩) nm cm)
      have hs3 := AllOwn.store (pre := []) (b := w.heap.size) (t := 51) hs2.1 2 (.slice (some ⟨w.heap.size + 1, 0, none⟩) nm nm)
      have hs4 := AllOwn.store (pre := []) (b := w.heap.size) (t := 51) hs3.1 3 (.int .i64 t)
      have hkk := ((hs1.2.trans hs2.2).trans hs3.2).trans hs4.2
      have HB2 := Lib.hid ((hbl.trans ((Below.refl _ _).drew.mono hbl.size)).trans (hkk.below (fun j e => by omega) (by simpa using hbl.size)))
      have hw := hs4.1.own (intRow (.slice (some ⟨w.heap.size + 1, 0, none⟩) nm nm) (wayL s.m.length s.q)) (by simp)
      have HW := Lib.hid (show OwnI w.heap.size _ (.slice (some ⟨w.heap.size + 1, 0, none⟩) nm nm) (wayL s.m.length s.q) from hw)
      have hBf := hs4.1.own (boxRow w.heap.size 51 [.slice al ll cl, .slice (some ⟨bm, 0, none⟩) nm cm, .slice (some ⟨w.heap.size + 1, 0, none⟩) nm nm, .int .i64 t]) (by simp)
      have rc0 := boxRow.cell hBf (j := 0) rfl
      have rc1 := boxRow.cell hBf (j := 1) rfl
      have rc2 := boxRow.cell hBf (j := 2) rfl
      have rc3 := boxRow.cell hBf (j := 3) rfl
      have Hrc := Lib.hid (And.intro rc0 (And.intro rc1 (And.intro rc2 rc3)))
      clear rc0 rc1 rc2 rc3 hBf hs1 hs2 hs3 hs4 hkk hw hal hbl hB k2 k3 k4 k5
      go_wp2
      go_region
      go_wp2
      obtain ⟨rc0, rc1, rc2, rc3⟩ := Hrc.out
      refine bodyPost_ret (res_ret _ _ _ _ _ _ rc0 rc1 rc2 rc3 _ rfl) rfl ⟨al, cl, _, rfl, K2.out, HW.out, HB2.out⟩
end Go.Proofs.Ytpbbdnicafifpaa

/-! ## RunG -/
namespace Go.Proofs.Ytpbbdnicafifpaa
open Go.RowKit
set_option linter.unusedVariables false

section
variable {ts : List Tr} {t : Int} {k : Nat} {c : List Int} {s : St}
theorem inst_stop (h : bestTo s.m ts ts.length < 0) : inst ts t (k + 1) c s = (s, 0) := by rw [inst, if_pos h]
theorem inst_ref {b : Nat} (h : bestTo s.m ts ts.length = (b : Int)) (hr : refuseN s (getI c b) ≠ 0) : inst ts t (k + 1) c s = (s, refuseN s (getI c b)) := by
  rw [inst, h, if_neg (by omega)]
  unfold refuseN at hr ⊢
  split
  · rfl
  · split
    · rfl
    · rename_i h1 h2; rw [if_neg h1, if_neg h2] at hr; exact absurd rfl hr
theorem inst_go {b : Nat} {x : Tr} (h : bestTo s.m ts ts.length = (b : Int)) (hx : ts[b]? = some x) (hr : refuseN s (getI c b) = 0) : inst ts t (k + 1) c s = inst ts t k (c.set b (getI c b + 1)) (fire t b x s) ∧ getI c b < 20 ∧ s.log.length < 2000 := by
  unfold refuseN at hr
  have h1 : ¬ 20 ≤ getI c b := fun h1 => by rw [if_pos h1] at hr; omega
  have h2 : ¬ 2000 ≤ s.log.length := fun h2 => by rw [if_neg h1, if_pos h2] at hr; omega
  refine ⟨?_, by omega, by omega⟩
  rw [inst, h, if_neg (by omega), if_neg h1, if_neg h2]
  simp [List.getD, hx]
end

theorem fire_log (t : Int) (i : Nat) (x : Tr) (s : St) : (fire t i x s).log = s.log ++ [(t, (i : Int))] := rfl

/-- what the firings at one time leave true -/
theorem inst_inv {n : Nt} (hn : NOk n) {t : Int} : ∀ (k : Nat) (c : List Int) (s : St), Inv n t s → After t s → 2001 ≤ k + s.log.length →
    Inv n t (inst n.trans t k c s).1 ∧ After t (inst n.trans t k c s).1 ∧ ((inst n.trans t k c s).2 = 0 → bestTo (inst n.trans t k c s).1.m n.trans n.trans.length < 0)
  | 0, c, s, hI, hA, hk => by have := hI.ll; omega
  | k + 1, c, s, hI, hA, hk => by
    by_cases hb : bestTo s.m n.trans n.trans.length < 0
    · rw [inst_stop hb]; exact ⟨hI, hA, fun _ => hb⟩
    · obtain ⟨b, hbe⟩ : ∃ b : Nat, bestTo s.m n.trans n.trans.length = b := ⟨(bestTo s.m n.trans n.trans.length).toNat, by omega⟩
      obtain ⟨x, hx, hm⟩ := bestTo_may s.m n.trans n.trans.length (by omega)
      rw [hbe, Int.toNat_natCast] at hx
      by_cases hr : refuseN s (getI c b) = 0
      · obtain ⟨e, _, hl⟩ := inst_go (t := t) (k := k) hbe hx hr
        rw [e]
        obtain ⟨h1, h2⟩ := arrive_inv (fired_inv hn hI (i := b) hx hm hl)
        exact inst_inv hn k _ _ h1 h2 (by rw [fire_log, List.length_append]; simp; omega)
      · rw [inst_ref hbe hr]; exact ⟨hI, hA, fun h => absurd h hr⟩
theorem instAll_inv {n : Nt} (hn : NOk n) {t : Int} {s : St} (hI : Inv n t s) : Inv n t (instAll n.trans t s).1 ∧ After t (instAll n.trans t s).1 ∧ ((instAll n.trans t s).2 = 0 → bestTo (instAll n.trans t s).1.m n.trans n.trans.length < 0) := by
  obtain ⟨h1, h2⟩ := arrive_inv hI
  exact inst_inv hn 2001 _ _ h1 h2 (by omega)

set_option maxRecDepth 100000 in
set_option maxHeartbeats 4000000 in
theorem instant_any {n : Nt} {w0 w : World} {b bm nm cm np nt cp ct : Nat} {ap at_ : Option Addr} {t : Int} {s : St} {more : List Row} (hn : NOk n) (hI : Inv n t s) (hnm : nm = s.m.length) (hnp : np = n.places.length) (hnt : nt = n.trans.length) (hnet : NetAt w0 (.slice ap np cp) (.slice at_ nt ct) n) (h : RunAt w0 w b (.slice ap np cp) (.slice at_ nt ct) bm nm cm t s more) :
    Calls Try.prog 80 #[.pointer (some ⟨b, 0, none⟩)] w fun e w' => e = .returned (.int .i64 (instAll n.trans t s).2) ∧ RunAt w0 w' b (.slice ap np cp) (.slice at_ nt ct) bm nm cm t (instAll n.trans t s).1 more := by
  obtain ⟨A, hA⟩ : ∃ A, A = instAll n.trans t s := ⟨_, rfl⟩
  rw [← hA]
  obtain ⟨hI1, hAf⟩ := arrive_inv hI
  have hnt32 : nt ≤ 1000000 := by have := hn.tr; omega
  have HAr := Lib.hid (arrive_any hI hnm h)
  have HA := Lib.hid hA
  have HI1 := Lib.hid hI1
  have HAf := Lib.hid hAf
  have HN := Lib.hid hn
  have Hnet := Lib.hid hnet
  have Hnt := Lib.hid hnt
  have Hnm : Hid (nm = n.places.length) := Lib.hid (by rw [hnm, hI.len])
  clear hA hI1 hAf hn hI hnm hnt hnet h hnp
  go_enter Try.func80, Try.ntmps80
  go_wp2_with fail
  refine HAr.out.mono ?_
  rintro e w1 ⟨rfl, h1⟩
  obtain ⟨_, k1, _, _, kb, _⟩ := h1.cells
  obtain ⟨w2, hmk, ho2, hb2⟩ := run_make_ints nt hnt32 w1
  have h2 := h1.add hb2 (r := intRow (.slice (some ⟨w1.heap.size, 0, none⟩) nt nt) (List.replicate nt 0)) (own_mono (by rw [intRow]; exact ho2) h1.low.size) (fun k e => by injection e with e; subst e; exact Nat.le_refl _)
  have H2 := Lib.hid h2
  obtain ⟨fb, hfb⟩ : ∃ k, k = w1.heap.size := ⟨_, rfl⟩
  rw [← hfb] at hmk H2
  clear h1 h2 ho2 hb2 HAr hfb
  go_wp2
  clear hmk k1 kb
  go_loopg [4, 5] 2001 (fun k s4 s5 wr => ∃ (c : List Int) (u : St), RunAt w0 wr b (.slice ap np cp) (.slice at_ nt ct) bm nm cm t u (more ++ [intRow (.slice (some ⟨fb, 0, none⟩) nt nt) c]) ∧ c.length = nt ∧ (∀ z ∈ c, 0 ≤ z) ∧ Inv n t u ∧ After t u ∧ 2001 ≤ k + u.log.length ∧ Hid (A = inst n.trans t k c u))
  case atStart => exact ⟨List.replicate nt 0, arrive t s, H2.out, by simp, fun z hz => by rw [List.eq_of_mem_replicate hz]; exact Int.le_refl _, HI1.out, HAf.out, by omega, Lib.hid (by rw [HA.out, Hnt.out]; rfl)⟩
  case round =>
    obtain ⟨c, u, hR, hcl, hc0, hI, hAf, hk, HK⟩ := hrel
    have Hc0 := Lib.hid hc0
    have hll := hI.ll
    obtain ⟨k, rfl⟩ : ∃ k, gk = k + 1 := ⟨gk - 1, by omega⟩
    rename World => v1
    have HR := Lib.hid hR
    have HI := Lib.hid hI
    have Haf := Lib.hid hAf
    have Hcl := Lib.hid hcl
    obtain ⟨bst, hbst⟩ : ∃ q, q = bestTo u.m n.trans nt := ⟨_, rfl⟩
    clear hR hI hAf hcl hll hc0 H2 HA HI1 HAf
    go_upto_region 4 with (fail)
    go_cut [4] from 16 to 24 (fun s4 wc => s4 = .int .i64 bst ∧ RunAt w0 wc b (.slice ap np cp) (.slice at_ nt ct) bm nm cm t u (more ++ [intRow (.slice (some ⟨fb, 0, none⟩) nt nt) c]))
    case first =>
      obtain ⟨k0, k1, k3, _, kb, _⟩ := HR.out.cells
      have hd := HR.out.go (Below.refl _ _).drew
      have HB := Lib.hid (best_any Hnt.out (Hnm.out.trans HI.out.len.symm) (Hnet.out.below hd.low) hd.ints.at_ (HN.out.fits HI.out.len) bst hbst)
      have Hd := Lib.hid hd
      clear hd hbst
      go_region_law (first | (go_simp; go_at_call 104; refine HB.out.mono ?_; rintro e w5 ⟨rfl, hb5⟩; have H5 := Lib.hid (Hd.out.go hb5); clear hb5))
      all_goals
        go_wp2
        go_meet
        case rel => exact ⟨rfl, H5.out⟩
    case rest =>
      rename World => v2
      obtain ⟨rfl, h5⟩ := hcut
      have H5 := Lib.hid h5
      clear h5 HR
      by_cases hneg : bst < 0
      · have HE : Hid (A = (u, 0)) := Lib.hid (by rw [HK.out]; exact inst_stop (by rw [← Hnt.out, ← hbst]; exact hneg))
        clear hbst
        go_wp2
        go_ret
        rw [HE.out]
        exact ⟨rfl, H5.out.sub (List.sublist_append_left _ _)⟩
      · have hnegb : decide (bst < 0) = false := decide_eq_false hneg
        obtain ⟨bn, rfl⟩ : ∃ q : Nat, bst = q := ⟨bst.toNat, by omega⟩
        obtain ⟨x, hx, hm⟩ := bestTo_may u.m n.trans nt (by rw [← hbst]; omega)
        rw [← hbst, Int.toNat_natCast] at hx
        have hbn : bn < nt := by rw [Hnt.out]; exact lt_at hx
        have hbi : (bn : Int) < (nt : Int) := by omega
        have hF : OwnI w0.heap.size v2 (.slice (some ⟨fb, 0, none⟩) nt nt) c := H5.out.mem (r := intRow (.slice (some ⟨fb, 0, none⟩) nt nt) c) (by simp)
        obtain ⟨cb, hcb⟩ := at_lt (l := c) (k := bn) (by rw [Hcl.out]; exact hbn)
        have hget : getI c bn = cb := getI_at hcb
        have c0 := hF.cell hcb
        have f0 := hF.froz bn
        have fl := hF.lt.2
        have hRf := refuse_any (f := cb) (q := refuseN u cb) Hnt.out Hnet.out hx (HN.out.dly x (HN.out.at_ hx)) (by have := HI.out.tb; have := HI.out.ll; omega) H5.out rfl
        have HRf := Lib.hid hRf
        have Hx := Lib.hid hx
        have Hm := Lib.hid hm
        have Hb : Hid (bestTo u.m n.trans n.trans.length = (bn : Int)) := Lib.hid (by rw [← Hnt.out, ← hbst])
        have Hget := Lib.hid hget
        have Hcb := Lib.hid hcb
        have Hcb0 := Lib.hid (Hc0.out cb (List.mem_of_getElem? hcb))
        by_cases hr : refuseN u cb = 0
        · obtain ⟨hgo, hc20, hl⟩ := inst_go (t := t) (k := k) (c := c) Hb.out hx (by rw [hget]; exact hr)
          rw [hget] at hgo hc20
          have HK2 := Lib.hid (HK.out.trans hgo)
          rw [hr] at HRf
          have Hl := Lib.hid hl
          clear hRf hF hx hm hcb hget hbst hgo hl hr
          go_wp2_with fail
          refine HRf.out.mono ?_
          rintro e w6 ⟨rfl, hb6⟩
          have h6 := H5.out.go hb6
          have hF : OwnI w0.heap.size w6 (.slice (some ⟨fb, 0, none⟩) nt nt) c := h6.mem (r := intRow (.slice (some ⟨fb, 0, none⟩) nt nt) c) (by simp)
          clear c0 f0 fl
          have c0 := hF.cell Hcb.out
          have f0 := hF.froz bn
          have fl := hF.lt.2
          have hst := hF.set bn (wrap64 (cb + 1)) (by rw [Hcl.out]; exact hbn)
          have h7 := h6.turn (r := intRow (.slice (some ⟨fb, 0, none⟩) nt nt) c) (r' := intRow (.slice (some ⟨fb, 0, none⟩) nt nt) (c.set bn (wrap64 (cb + 1)))) (hst.2.mono (fun j _ e => by subst e; rfl)) hst.1 rfl
          have H7 := Lib.hid h7
          clear hb6 h6 hF hst h7 HRf H5
          have hfi := fire_any HN.out HI.out (Hnm.out.trans HI.out.len.symm) Hnt.out Hnet.out Hx.out Hm.out Hl.out H7.out
          have Hfi := Lib.hid hfi
          clear hfi
          go_wp2_with (go_at_call 106; refine Hfi.out.mono ?_; rintro e w8 ⟨rfl, h8⟩; have H8 := Lib.hid h8; clear h8)
          go_roundg k
          case measure => omega
          case rel =>
            obtain ⟨i1, i2⟩ := arrive_inv (fired_inv HN.out HI.out (i := bn) Hx.out Hm.out Hl.out)
            have hwr : wrap64 (cb + 1) = cb + 1 := IntWalk.wrap64_in _ (by have := Hcb0.out; omega)
            refine ⟨c.set bn (cb + 1), fire t bn x u, by have := H8.out; rwa [hwr] at this, by rw [List.length_set]; exact Hcl.out, ?_, i1, i2, by rw [fire_log, List.length_append, List.length_singleton]; omega, HK2⟩
            intro z hz
            rcases List.mem_or_eq_of_mem_set hz with h1 | h1
            · exact Hc0.out z h1
            · have := Hcb0.out; omega
        · have HE : Hid (A = (u, refuseN u cb)) := Lib.hid (by rw [HK.out]; have := inst_ref (ts := n.trans) (t := t) (k := k) (c := c) Hb.out (by rw [hget]; exact hr); rw [hget] at this; exact this)
          obtain ⟨q, hq⟩ : ∃ q, q = refuseN u cb := ⟨_, rfl⟩
          rw [← hq] at HRf HE hr
          have hrb : (q == 0) = false := by simpa using hr
          clear hRf hF hx hm hcb hget hbst hq
          go_wp2_with fail
          refine HRf.out.mono ?_
          rintro e w6 ⟨rfl, hb6⟩
          have H6 := Lib.hid (H5.out.go hb6)
          clear hb6 c0 f0 fl
          go_wp2
          go_ret
          rw [HE.out]
          exact ⟨rfl, H6.out.sub (List.sublist_append_left _ _)⟩
end Go.Proofs.Ytpbbdnicafifpaa

/-! ## RunH -/
namespace Go.Proofs.Ytpbbdnicafifpaa
open Go.RowKit
set_option linter.unusedVariables false

theorem times_err {ts : List Tr} {h t : Int} {k : Nat} {s : St} (he : (instAll ts t s).2 ≠ 0) : times ts h (k + 1) t s = ((instAll ts t s).1, t, (instAll ts t s).2) := by rw [times, if_pos he]
theorem times_go {ts : List Tr} {h t : Int} {k : Nat} {s : St} (he : (instAll ts t s).2 = 0) : times ts h (k + 1) t s = if 0 ≤ nextT (instAll ts t s).1.q ∧ nextT (instAll ts t s).1.q ≤ h then times ts h k (nextT (instAll ts t s).1.q) (instAll ts t s).1 else ((instAll ts t s).1, t, 0) := by rw [times, if_neg (by rw [he]; simp)]

set_option maxRecDepth 100000 in
set_option maxHeartbeats 4000000 in
theorem upTo_any {n : Nt} {w0 w : World} {b bm nm cm np nt cp ct : Nat} {ap at_ : Option Addr} {h : Int} {more : List Row} (hn : NOk n) (hnm : nm = n.places.length) (hnp : np = n.places.length) (hnt : nt = n.trans.length) (hnet : NetAt w0 (.slice ap np cp) (.slice at_ nt ct) n) (hR : RunAt w0 w b (.slice ap np cp) (.slice at_ nt ct) bm nm cm 0 (start n) more) :
    Calls Try.prog 55 #[.pointer (some ⟨b, 0, none⟩), .int .i64 h] w fun e w' => e = .returned (.int .i64 (runN n h).2.2) ∧ RunAt w0 w' b (.slice ap np cp) (.slice at_ nt ct) bm nm cm (runN n h).2.1 (runN n h).1 more := by
  obtain ⟨A, hA⟩ : ∃ A, A = runN n h := ⟨_, rfl⟩
  rw [← hA]
  have HA : Hid (A = if 0 ≤ (0 : Int) ∧ 0 ≤ h then times n.trans h (h.toNat + 1) 0 (start n) else (start n, 0, 0)) := Lib.hid (by rw [hA, runN]; simp)
  have HN := Lib.hid hn
  have Hnet := Lib.hid hnet
  have Hnt := Lib.hid hnt
  have Hnp := Lib.hid hnp
  have Hnm := Lib.hid hnm
  have HR := Lib.hid hR
  have HI := Lib.hid (start_inv hn)
  clear hA hn hnet hnt hnp hnm hR
  go_enter Try.func55, Try.ntmps55
  go_wp2
  go_loopg [5, 6] (h.toNat + 1) (fun k s5 s6 wr => ∃ (tt tc : Int) (u : St), s5 = .int .i64 tt ∧ RunAt w0 wr b (.slice ap np cp) (.slice at_ nt ct) bm nm cm tc u more ∧ (0 ≤ tt → Inv n tt u) ∧ (0 ≤ tt → tt ≤ h → (h - tt).toNat + 1 ≤ k) ∧ Hid (A = if 0 ≤ tt ∧ tt ≤ h then times n.trans h k tt u else (u, tc, 0)))
  case atStart => exact ⟨0, 0, start n, rfl, HR.out, fun _ => HI.out, fun _ _ => by omega, HA⟩
  case round =>
    obtain ⟨tt, tc, u, rfl, h1, hI, hk, HK⟩ := hrel
    rename World => v1
    by_cases g1 : 0 ≤ tt
    · by_cases g2 : tt ≤ h
      · obtain ⟨k, rfl⟩ : ∃ k, gk = k + 1 := ⟨gk - 1, by have := hk g1 g2; omega⟩
        have hi := hI g1
        obtain ⟨h2, f5⟩ := h1.time tt
        obtain ⟨_, _, _, k5, kb, _⟩ := h1.cells
        have hin := instant_any HN.out hi (Hnm.out.trans hi.len.symm) Hnp.out Hnt.out Hnet.out h2
        obtain ⟨i1, i2, i3⟩ := instAll_inv HN.out hi
        have HIn := Lib.hid hin
        have Hi1 := Lib.hid i1
        have Hi2 := Lib.hid i2
        have HK2 : Hid (A = times n.trans h (k + 1) tt u) := Lib.hid (by rw [HK.out, if_pos ⟨g1, g2⟩])
        have Hk := Lib.hid (hk g1 g2)
        have Herr := Lib.hid (fun he => times_err (ts := n.trans) (h := h) (t := tt) (k := k) (s := u) he)
        have Hgo := Lib.hid (fun he => times_go (ts := n.trans) (h := h) (t := tt) (k := k) (s := u) he)
        clear hi h1 h2 hin i1 i2 i3 hI hk
        generalize instAll n.trans tt u = X at HIn Hi1 Hi2 Herr Hgo
        obtain ⟨u2, er⟩ := X
        simp only at HIn Hi1 Hi2 Herr Hgo
        by_cases he : er = 0
        · subst he
          go_wp2_with (go_at_call 80; refine HIn.out.mono ?_; rintro e w6 ⟨rfl, h6⟩; have H6 := Lib.hid h6; clear h6)
          obtain ⟨aq, cq, k4, hE⟩ := H6.out.way
          have kb6 := H6.out.cells.2.2.2.2.1
          refine (next_any rfl kb6 k4 (RowAt.of_own hE) _ rfl).mono ?_
          rintro e w7 ⟨rfl, hb7⟩
          have H7 := Lib.hid (H6.out.go hb7)
          have HK3 := Lib.hid (HK2.out.trans (Hgo.out trivial))
          have Hnx := Lib.hid (fun h0 => next_inv Hi1.out Hi2.out h0)
          obtain ⟨z, hz⟩ : ∃ z, z = nextT u2.q := ⟨_, rfl⟩
          rw [← hz] at HK3 Hnx ⊢
          clear hz hb7 k4 hE kb6
          go_wp2
          go_roundg k
          case rel =>
            refine ⟨z, tt, u2, rfl, H7.out, fun h0 => (Hnx.out h0).2.1, fun h0 h1 => ?_, HK3⟩
            have := (Hnx.out h0).1
            have := Hk.out
            omega
          case measure => omega
        · have hne : (er == 0) = false := by simpa using he
          have HE : Hid (A = (u2, tt, er)) := Lib.hid (by rw [HK2.out, Herr.out he])
          clear he
          go_wp2_with (go_at_call 80; refine HIn.out.mono ?_; rintro e w6 ⟨rfl, h6⟩; have H6 := Lib.hid h6; clear h6)
          go_ret
          rw [HE.out]
          exact ⟨rfl, H6.out⟩
      · have g2b : decide (tt ≤ h) = false := decide_eq_false g2
        have HE : Hid (A = (u, tc, 0)) := Lib.hid (by rw [HK.out, if_neg (by omega)])
        have H1 := Lib.hid h1
        clear h1 hI hk
        go_wp2
        go_ret
        rw [HE.out]
        exact ⟨rfl, H1.out⟩
    · have g1b : decide (0 ≤ tt) = false := decide_eq_false g1
      have HE : Hid (A = (u, tc, 0)) := Lib.hid (by rw [HK.out, if_neg (by omega)])
      have H1 := Lib.hid h1
      clear h1 hI hk
      go_wp2
      go_ret
      rw [HE.out]
      exact ⟨rfl, H1.out⟩
end Go.Proofs.Ytpbbdnicafifpaa

/-! ## RunI -/
namespace Go.Proofs.Ytpbbdnicafifpaa
open Go.RowKit
set_option linter.unusedVariables false

theorem times_inv {n : Nt} (hn : NOk n) (h : Int) : ∀ (k : Nat) (t : Int) (s : St), Inv n t s → Inv n (times n.trans h k t s).2.1 (times n.trans h k t s).1
  | 0, t, s, hI => hI
  | k + 1, t, s, hI => by
    obtain ⟨i1, i2, _⟩ := instAll_inv hn hI
    by_cases he : (instAll n.trans t s).2 = 0
    · rw [times_go he]
      split
      · rename_i hc
        exact times_inv hn h k _ _ (next_inv i1 i2 hc.1).2.1
      · exact i1
    · rw [times_err he]; exact i1
theorem runN_inv {n : Nt} (hn : NOk n) (h : Int) : Inv n (runN n h).2.1 (runN n h).1 := by
  unfold runN
  split
  · exact times_inv hn h _ _ _ (start_inv hn)
  · exact start_inv hn

theorem run_ret (W : World) (R : Nat) (v0 v1 v2 v3 x : Value) (h0 : W.cell? ⟨R, 0, none⟩ = some v0) (h1 : W.cell? ⟨R, 1, none⟩ = some v1) (h2 : W.cell? ⟨R, 2, none⟩ = some v2) (h3 : W.cell? ⟨R, 3, none⟩ = some v3) (tmps : Array Value) (ht : tmps[4]?.getD undef = .pointer (some ⟨R, 0, none⟩)) (hx : tmps[5]?.getD undef = x) :
    (results Try.f30 tmps).run Try.prog W = .ok (.tuple #[.agg #[v0, v1, v2, v3], x]) W := by
  simp [results, Try.results30, go_sem, ht, hx, h0, h1, h2, h3]

def nilS : Value := .slice none 0 0
/-- a net's box and the box of what is answered -/
structure Two9 (w wr : World) (vp vt : Value) : Prop where
  all : AllOwn w.heap.size wr [boxRow w.heap.size 31 [vp, vt], boxRow (w.heap.size + 1) 51 [nilS, nilS, nilS, .int .i64 0]]
  below : Below w.heap.size w wr
section
variable {w wr w' : World} {vp vt : Value}
theorem Two9.start (w : World) (vp vt : Value) : Two9 w ((w.alloc (.cells #[vp, vt] 31)).alloc (.cells #[nilS, nilS, nilS, .int .i64 0] 51)) vp vt := by
  have h1 := (AllOwn.nil w.heap.size w).add ((Below.refl _ _).alloc (Nat.le_refl _) _) (boxRow.new w.heap.size w 31 #[vp, vt] (Nat.le_refl _)) (fun k e => by injection e with e; subst e; exact Nat.le_refl _)
  have h2 := h1.add ((Below.refl _ _).alloc (Nat.le_refl _) _) (boxRow.new w.heap.size _ 51 #[nilS, nilS, nilS, .int .i64 0] (by simp)) (fun k e => by injection e with e; subst e; exact Nat.le_refl _)
  have hs : (w.alloc (.cells #[vp, vt] 31)).heap.size = w.heap.size + 1 := by simp
  rw [hs] at h2
  exact ⟨h2, ((Below.refl _ w).alloc (Nat.le_refl _) _).alloc (by simp) _⟩
theorem Two9.go (h : Two9 w wr vp vt) (hb : Below wr.heap.size wr w') : Two9 w w' vp vt := ⟨h.all.below hb, h.below.trans (hb.mono h.below.size)⟩
theorem Two9.net (h : Two9 w wr vp vt) : wr.cell? ⟨w.heap.size, 0, none⟩ = some vp ∧ wr.cell? ⟨w.heap.size, 1, none⟩ = some vt ∧ w.heap.size < wr.heap.size := by
  have hB := h.all.own (boxRow w.heap.size 31 [vp, vt]) (by simp)
  exact ⟨boxRow.cell hB rfl, boxRow.cell hB rfl, (boxRow.lt hB).2⟩
end

/-- the box of what is answered, beside others, is filled -/
theorem fill9 {B R : Nat} {w : World} {rows : List Row} {u0 u1 u2 u3 : Value} (h : AllOwn B w (boxRow R 51 [u0, u1, u2, u3] :: rows)) (v0 v1 v2 v3 : Value) :
    AllOwn B ((((w.setCell ⟨R, 0, none⟩ v0).setCell ⟨R, 1, none⟩ v1).setCell ⟨R, 2, none⟩ v2).setCell ⟨R, 3, none⟩ v3) (boxRow R 51 [v0, v1, v2, v3] :: rows) ∧ Kept (fun k => k = R) w ((((w.setCell ⟨R, 0, none⟩ v0).setCell ⟨R, 1, none⟩ v1).setCell ⟨R, 2, none⟩ v2).setCell ⟨R, 3, none⟩ v3) := by
  have h1 := AllOwn.store (pre := []) (b := R) (t := 51) h 0 v0
  have h2 := AllOwn.store (pre := []) (b := R) (t := 51) h1.1 1 v1
  have h3 := AllOwn.store (pre := []) (b := R) (t := 51) h2.1 2 v2
  have h4 := AllOwn.store (pre := []) (b := R) (t := 51) h3.1 3 v3
  exact ⟨h4.1, ((h1.2.trans h2.2).trans h3.2).trans h4.2⟩

set_option maxRecDepth 100000 in
set_option maxHeartbeats 4000000 in
theorem run_bad {w : World} {n : Nt} {ap at_ : Option Addr} {cp ct np nt : Nat} {h q : Int} (hnp : np = n.places.length) (hnt : nt = n.trans.length) (hnet : NetAt w (.slice ap np cp) (.slice at_ nt ct) n) (hs : ∀ s ∈ n.names, s.size ≤ 9223372036854775807) (hq : checkN n = q) (hne : q ≠ 0) :
    Calls Try.prog 30 #[.agg #[.slice ap np cp, .slice at_ nt ct], .int .i64 h] w fun e w' => e = .returned (.tuple #[resV nilS nilS nilS 0, .int .i64 q]) ∧ Below w.heap.size w w' := by
  subst hnp hnt hq
  have h0 := Two9.start w (.slice ap n.places.length cp) (.slice at_ n.trans.length ct)
  have hck := check_any (hnet.below h0.below) hs
  obtain ⟨np, hnp⟩ : ∃ k, k = n.places.length := ⟨_, rfl⟩
  obtain ⟨nt, hnt⟩ : ∃ k, k = n.trans.length := ⟨_, rfl⟩
  obtain ⟨q, hq⟩ : ∃ k, k = checkN n := ⟨_, rfl⟩
  rw [← hnp, ← hnt] at h0 hck ⊢
  rw [← hq] at hck hne ⊢
  have hqb : (q == 0) = false := by simpa using hne
  have H0 := Lib.hid h0
  have Hck := Lib.hid hck
  unfold nilS at H0 Hck
  clear h0 hck hnet hs hnp hnt hq hne
  go_enter Try.func30, Try.ntmps30
  go_wp2_with fail
  refine Hck.out.mono ?_
  rintro e w1 ⟨rfl, hb1⟩
  have h1 := H0.out.go hb1
  have hR := h1.all.own (boxRow (w.heap.size + 1) 51 [nilS, nilS, nilS, .int .i64 0]) (by simp)
  have r0 := boxRow.cell hR (j := 0) rfl
  have r1 := boxRow.cell hR (j := 1) rfl
  have r2 := boxRow.cell hR (j := 2) rfl
  have r3 := boxRow.cell hR (j := 3) rfl
  have q0 := boxRow.froz hR 0
  have q1 := boxRow.froz hR 1
  have q2 := boxRow.froz hR 2
  have q3 := boxRow.froz hR 3
  have rl := (boxRow.lt hR).2
  have hf := fill9 (h1.all.perm (List.Perm.swap _ _ _)) nilS nilS nilS (.int .i64 0)
  have hB := hf.1.own (boxRow (w.heap.size + 1) 51 [nilS, nilS, nilS, .int .i64 0]) (by simp)
  have Hrc := Lib.hid (And.intro (boxRow.cell hB (j := 0) rfl) (And.intro (boxRow.cell hB (j := 1) rfl) (And.intro (boxRow.cell hB (j := 2) rfl) (boxRow.cell hB (j := 3) rfl))))
  have HB := Lib.hid (h1.below.trans (hf.2.below (fun j e => by omega) h1.below.size))
  unfold nilS at r0 r1 r2 r3 Hrc HB
  clear h1 hR hf hB hb1 Hck H0
  go_wp2
  obtain ⟨rc0, rc1, rc2, rc3⟩ := Hrc.out
  exact bodyPost_ret (run_ret _ _ _ _ _ _ _ rc0 rc1 rc2 rc3 _ rfl rfl) rfl ⟨rfl, HB.out⟩

theorem two9_run {w : World} {vp vt : Value} {n : Nt} {W w5 : World} {bm nm : Nat} (h : Two9 w W vp vt) (hb : Below W.heap.size W w5) (ho : OwnI W.heap.size w5 (.slice (some ⟨bm, 0, none⟩) nm nm) (n.places.map (·.tok))) :
    RunAt w (w5.alloc (.cells #[vp, vt, nilS, .slice (some ⟨bm, 0, none⟩) nm nm, nilS, .int .i64 0] 100)) w5.heap.size vp vt bm nm nm 0 (start n) [boxRow (w.heap.size + 1) 51 [nilS, nilS, nilS, .int .i64 0]] := by
  have h1 := h.all.add hb (r := intRow (.slice (some ⟨bm, 0, none⟩) nm nm) (n.places.map (·.tok))) (own_mono ho h.below.size) (fun k e => by injection e with e; subst e; exact ho.lt.1)
  have hlow := h.below.trans (hb.mono h.below.size)
  have h2 := h1.add ((Below.refl _ _).alloc (Nat.le_refl _) _) (boxRow.new w.heap.size w5 100 #[vp, vt, nilS, .slice (some ⟨bm, 0, none⟩) nm nm, nilS, .int .i64 0] hlow.size) (fun k e => by injection e with e; subst e; exact Nat.le_refl _)
  have h3 := (h2.add (Below.refl _ _) (r := fiRow nilS []) (ownNil _ _ _ _) (fun k e => by cases e)).add (Below.refl _ _) (r := evRow nilS []) (ownNil _ _ _ _) (fun k e => by cases e)
  refine ⟨nilS, nilS, ?_, hlow.trans (((Below.refl _ w5).alloc (Nat.le_refl _) _).mono hlow.size)⟩
  obtain ⟨N, hN⟩ : ∃ r, r = boxRow w.heap.size 31 [vp, vt] := ⟨_, rfl⟩
  obtain ⟨R, hR⟩ : ∃ r, r = boxRow (w.heap.size + 1) 51 [nilS, nilS, nilS, .int .i64 0] := ⟨_, rfl⟩
  obtain ⟨I, hI⟩ : ∃ r, r = intRow (.slice (some ⟨bm, 0, none⟩) nm nm) (n.places.map (·.tok)) := ⟨_, rfl⟩
  obtain ⟨X, hX⟩ : ∃ r, r = boxRow w5.heap.size 100 [vp, vt, nilS, .slice (some ⟨bm, 0, none⟩) nm nm, nilS, .int .i64 0] := ⟨_, rfl⟩
  replace h3 : AllOwn w.heap.size (w5.alloc (.cells #[vp, vt, nilS, .slice (some ⟨bm, 0, none⟩) nm nm, nilS, .int .i64 0] 100)) [N, R, I, X, fiRow nilS [], evRow nilS []] := by subst hN hR hI hX; exact h3
  have h4 : AllOwn w.heap.size (w5.alloc (.cells #[vp, vt, nilS, .slice (some ⟨bm, 0, none⟩) nm nm, nilS, .int .i64 0] 100)) [X, fiRow nilS [], I, evRow nilS [], R] := by
    refine (h3.sub (List.sublist_cons_self _ _)).perm ?_
    refine List.Perm.trans (l₂ := [I, X, fiRow nilS [], evRow nilS [], R]) ?_ ?_
    · exact (List.perm_append_comm (l₁ := [R]) (l₂ := [I, X, fiRow nilS [], evRow nilS []]))
    · refine List.Perm.trans (List.Perm.swap X I _) (List.Perm.cons _ (List.Perm.swap (fiRow nilS []) I _))
  subst hN hR hI hX
  exact h4

/-- the same where the run's box was made ahead of its tokens -/
theorem two9_run2 {w : World} {vp vt : Value} {n : Nt} {W w5 : World} {bm nm : Nat} (h : Two9 w W vp vt) (hb : Below (W.alloc (.cells #[nilS, nilS, nilS, nilS, nilS, .int .i64 0] 100)).heap.size (W.alloc (.cells #[nilS, nilS, nilS, nilS, nilS, .int .i64 0] 100)) w5) (ho : OwnI (W.alloc (.cells #[nilS, nilS, nilS, nilS, nilS, .int .i64 0] 100)).heap.size w5 (.slice (some ⟨bm, 0, none⟩) nm nm) (n.places.map (·.tok))) :
    RunAt w ((((((w5.setCell ⟨W.heap.size, 0, none⟩ vp).setCell ⟨W.heap.size, 1, none⟩ vt).setCell ⟨W.heap.size, 2, none⟩ nilS).setCell ⟨W.heap.size, 3, none⟩ (.slice (some ⟨bm, 0, none⟩) nm nm)).setCell ⟨W.heap.size, 4, none⟩ nilS).setCell ⟨W.heap.size, 5, none⟩ (.int .i64 0)) W.heap.size vp vt bm nm nm 0 (start n) [boxRow (w.heap.size + 1) 51 [nilS, nilS, nilS, .int .i64 0]] := by
  have h1 := h.all.add ((Below.refl _ _).alloc (Nat.le_refl _) _) (boxRow.new w.heap.size W 100 #[nilS, nilS, nilS, nilS, nilS, .int .i64 0] h.below.size) (fun k e => by injection e with e; subst e; exact Nat.le_refl _)
  have hlow0 : Below w.heap.size w (W.alloc (.cells #[nilS, nilS, nilS, nilS, nilS, .int .i64 0] 100)) := h.below.trans (((Below.refl _ W).alloc (Nat.le_refl _) _).mono h.below.size)
  have h2 := h1.add hb (r := intRow (.slice (some ⟨bm, 0, none⟩) nm nm) (n.places.map (·.tok))) (own_mono ho hlow0.size) (fun k e => by injection e with e; subst e; exact ho.lt.1)
  have hlow := hlow0.trans (hb.mono hlow0.size)
  have h3 := (h2.add (Below.refl _ _) (r := fiRow nilS []) (ownNil _ _ _ _) (fun k e => by cases e)).add (Below.refl _ _) (r := evRow nilS []) (ownNil _ _ _ _) (fun k e => by cases e)
  have h4 : AllOwn w.heap.size w5 [boxRow W.heap.size 100 [nilS, nilS, nilS, nilS, nilS, .int .i64 0], fiRow nilS [], intRow (.slice (some ⟨bm, 0, none⟩) nm nm) (n.places.map (·.tok)), evRow nilS [], boxRow (w.heap.size + 1) 51 [nilS, nilS, nilS, .int .i64 0]] := by
    obtain ⟨N, hN⟩ : ∃ r, r = boxRow w.heap.size 31 [vp, vt] := ⟨_, rfl⟩
    obtain ⟨R, hR⟩ : ∃ r, r = boxRow (w.heap.size + 1) 51 [nilS, nilS, nilS, .int .i64 0] := ⟨_, rfl⟩
    obtain ⟨I, hI⟩ : ∃ r, r = intRow (.slice (some ⟨bm, 0, none⟩) nm nm) (n.places.map (·.tok)) := ⟨_, rfl⟩
    obtain ⟨X, hX⟩ : ∃ r, r = boxRow W.heap.size 100 [nilS, nilS, nilS, nilS, nilS, .int .i64 0] := ⟨_, rfl⟩
    replace h3 : AllOwn w.heap.size w5 [N, R, X, I, fiRow nilS [], evRow nilS []] := by subst hN hR hI hX; exact h3
    have h4 : AllOwn w.heap.size w5 [X, fiRow nilS [], I, evRow nilS [], R] := by
      refine (h3.sub (List.sublist_cons_self _ _)).perm ?_
      refine List.Perm.trans (l₂ := [X, I, fiRow nilS [], evRow nilS [], R]) ?_ ?_
      · exact (List.perm_append_comm (l₁ := [R]) (l₂ := [X, I, fiRow nilS [], evRow nilS []]))
      · exact List.Perm.cons _ (List.Perm.swap (fiRow nilS []) I _)
    subst hN hR hI hX
    exact h4
  have s0 := AllOwn.store (pre := []) (b := W.heap.size) (t := 100) h4 0 vp
  have s1 := AllOwn.store (pre := []) (b := W.heap.size) (t := 100) s0.1 1 vt
  have s2 := AllOwn.store (pre := []) (b := W.heap.size) (t := 100) s1.1 2 nilS
  have s3 := AllOwn.store (pre := []) (b := W.heap.size) (t := 100) s2.1 3 (.slice (some ⟨bm, 0, none⟩) nm nm)
  have s4 := AllOwn.store (pre := []) (b := W.heap.size) (t := 100) s3.1 4 nilS
  have s5 := AllOwn.store (pre := []) (b := W.heap.size) (t := 100) s4.1 5 (.int .i64 0)
  have hk := ((((s0.2.trans s1.2).trans s2.2).trans s3.2).trans s4.2).trans s5.2
  exact ⟨nilS, nilS, s5.1, hlow.trans (hk.below (fun j e => by subst e; exact h.below.size) hlow.size)⟩

set_option maxRecDepth 100000 in
set_option maxHeartbeats 4000000 in
theorem run_any {w : World} {n : Nt} {ap at_ : Option Addr} {cp ct np nt : Nat} {h : Int} (hnp : np = n.places.length) (hnt : nt = n.trans.length) (hnet : NetAt w (.slice ap np cp) (.slice at_ nt ct) n) (hs : ∀ s ∈ n.names, s.size ≤ 9223372036854775807) (hq : checkN n = 0) :
    Calls Try.prog 30 #[.agg #[.slice ap np cp, .slice at_ nt ct], .int .i64 h] w fun e w' => ∃ al nl cl bm cm bw nw, e = .returned (.tuple #[resV (.slice al nl cl) (.slice (some ⟨bm, 0, none⟩) np cm) (.slice (some ⟨bw, 0, none⟩) nw nw) (runN n h).2.1, .int .i64 (runN n h).2.2]) ∧ nl = (runN n h).1.log.length ∧ nw = np ∧ ResAt w' (.slice al nl cl) (.slice (some ⟨bm, 0, none⟩) np cm) (.slice (some ⟨bw, 0, none⟩) nw nw) (runN n h).1 ∧ Below w.heap.size w w' := by
  have hn := checkN_nok hq
  obtain ⟨A, hA⟩ : ∃ A, A = runN n h := ⟨_, rfl⟩
  have HI : Hid (Inv n A.2.1 A.1) := Lib.hid (by rw [hA]; exact runN_inv hn h)
  rw [← hA]
  obtain ⟨u, tt, er⟩ := A
  simp only at HI ⊢
  have HA := Lib.hid hA
  clear hA
  have hn32 : np ≤ 1000000 := by have := hn.pl; omega
  have h0 := Two9.start w (.slice ap np cp) (.slice at_ nt ct)
  have hck := check_any (n := n) (ap := ap) (at_ := at_) (cp := cp) (ct := ct) (by rw [← hnp, ← hnt]; exact hnet.below h0.below) hs
  rw [← hnp, ← hnt, hq] at hck
  have HN := Lib.hid hn
  have Hnp := Lib.hid hnp
  have Hnt := Lib.hid hnt
  have Hnet := Lib.hid hnet
  have H0 := Lib.hid h0
  have Hck := Lib.hid hck
  unfold nilS at Hck
  clear h0 hck hnet hs hnp hnt hq hn
  go_enter Try.func30, Try.ntmps30
  go_wp2_with fail
  refine Hck.out.mono ?_
  rintro e w1 ⟨rfl, hb1⟩
  have h1 := H0.out.go hb1
  obtain ⟨n0, n1, nl⟩ := h1.net
  have hd1 : Below w1.heap.size w1 w1.drew := (Below.refl _ _).drew
  have hd2 : Below w1.heap.size w1 (w1.drew.alloc (.cells #[nilS, nilS, nilS, nilS, nilS, .int .i64 0] 100)) := hd1.alloc (by simp) _
  have HF := Lib.hid (fun (W : World) (hW : Below w1.heap.size w1 W) => (first_any (n := n) (vt := .slice at_ nt ct) Hnp.out hn32 (Hnet.out.below (h1.below.trans (hW.mono h1.below.size))).1).mono (R' := fun e w' => ∃ b, e = .returned (.slice (some ⟨b, 0, none⟩) np np) ∧ OwnI W.heap.size w' (.slice (some ⟨b, 0, none⟩) np np) (n.places.map (·.tok)) ∧ Below W.heap.size W w' ∧ Below w1.heap.size w1 w') (fun e w' hh => by obtain ⟨b, a1, a2, a3⟩ := hh; exact ⟨b, a1, a2, a3, hW.trans (a3.mono hW.size)⟩))
  have H1 := Lib.hid h1
  have Hd1 := Lib.hid hd1
  have Hd2 := Lib.hid hd2
  clear h1 hb1 hd1 hd2 Hck H0
  go_upto_region 4 with (fail)
  go_cut [7] from 15 to 18 (fun s7 wc => ∃ b bm, s7 = .pointer (some ⟨b, 0, none⟩) ∧ RunAt w wc b (.slice ap np cp) (.slice at_ nt ct) bm np np 0 (start n) [boxRow (w.heap.size + 1) 51 [nilS, nilS, nilS, .int .i64 0]])
  case first =>
    go_region_law (first | (go_simp; go_at_call 54; refine (HF.out _ (by first | exact Hd1.out | exact Hd2.out)).mono ?_; rintro e w5 ⟨bm, rfl, ho5, hb5, hb6⟩; have m0 := (below_cells hb6 w.heap.size 0 nl).trans n0; have m1 := (below_cells hb6 w.heap.size 1 nl).trans n1; have m2 := Nat.lt_of_lt_of_le nl hb6.size; have HO5 := Lib.hid ho5; have HB5 := Lib.hid hb5; have rc := fun (j : Nat) hj => below_cells hb5 w1.heap.size j hj; have rz := fun (j : Nat) hj => World.frozen?_of_block (a := ⟨w1.heap.size, j, none⟩) (hb5.block w1.heap.size hj); have rs := hb5.size; simp at rs; clear ho5 hb5 hb6))
    all_goals
      go_wp2
      go_meet
      case rel =>
        first
          | (refine ⟨w5.heap.size, bm, rfl, ?_⟩; exact two9_run (n := n) (W := w1.drew) (H1.out.go (Below.refl _ _).drew) HB5.out HO5.out)
          | (refine ⟨w1.heap.size, bm, rfl, ?_⟩; exact two9_run2 (n := n) (W := w1.drew) (H1.out.go (Below.refl _ _).drew) HB5.out HO5.out)
  case rest =>
    rename World => w2
    obtain ⟨b, bm, rfl, h2⟩ := hcut
    clear n0 n1 nl H1 Hd1 Hd2 HF
    have hut := upTo_any (h := h) HN.out Hnp.out Hnp.out Hnt.out Hnet.out h2
    rw [← HA.out] at hut
    clear h2
    go_wp2_with fail
    refine hut.mono ?_
    rintro e w3 ⟨rfl, h3⟩
    have hre := result_any HN.out HI.out (Hnp.out.trans HI.out.len.symm) h3
    clear hut
    go_wp2_with fail
    refine hre.mono ?_
    rintro e w4 ⟨al, cl, bw, rfl, hc2, how, hb4⟩
    have h4 := h3.add hb4 (r := intRow (.slice (some ⟨bw, 0, none⟩) np np) (wayL u.m.length u.q)) (own_mono how h3.low.size) (fun k e => by injection e with e; subst e; exact how.lt.1)
    obtain ⟨vl, vq, hall, hlow⟩ := h4
    have hBr := hall.own (boxRow b 100 (runCs (.slice ap np cp) (.slice at_ nt ct) vl (.slice (some ⟨bm, 0, none⟩) np np) vq tt)) (by simp)
    have ev : vl = .slice al u.log.length cl := by
      have e1 : w4.cell? ⟨b, 2, none⟩ = some vl := boxRow.cell hBr rfl
      have e2 := (below_cells hb4 b 2 h3.cells.2.2.2.2.1).trans hc2
      rw [e1] at e2
      injection e2
    subst ev
    obtain ⟨RB, hRB⟩ : ∃ r, r = boxRow b 100 (runCs (.slice ap np cp) (.slice at_ nt ct) (.slice al u.log.length cl) (.slice (some ⟨bm, 0, none⟩) np np) vq tt) := ⟨_, rfl⟩
    have h5 : AllOwn w.heap.size w4 [boxRow (w.heap.size + 1) 51 [nilS, nilS, nilS, .int .i64 0], fiRow (.slice al u.log.length cl) u.log, intRow (.slice (some ⟨bm, 0, none⟩) np np) u.m, intRow (.slice (some ⟨bw, 0, none⟩) np np) (wayL u.m.length u.q)] := by
      have h6 := (hall.sub (rs' := [fiRow (.slice al u.log.length cl) u.log, intRow (.slice (some ⟨bm, 0, none⟩) np np) u.m] ++ [boxRow (w.heap.size + 1) 51 [nilS, nilS, nilS, .int .i64 0], intRow (.slice (some ⟨bw, 0, none⟩) np np) (wayL u.m.length u.q)]) (by
        refine List.Sublist.cons _ ?_
        refine List.Sublist.cons_cons _ (List.Sublist.cons_cons _ (List.Sublist.cons _ ?_))
        exact List.Sublist.refl _))
      refine h6.perm ?_
      exact (List.perm_append_comm (l₁ := [fiRow (.slice al u.log.length cl) u.log, intRow (.slice (some ⟨bm, 0, none⟩) np np) u.m]) (l₂ := [boxRow (w.heap.size + 1) 51 [nilS, nilS, nilS, .int .i64 0]])).append_right [intRow (.slice (some ⟨bw, 0, none⟩) np np) (wayL u.m.length u.q)]
    have hR := h5.own (boxRow (w.heap.size + 1) 51 [nilS, nilS, nilS, .int .i64 0]) (by simp)
    have r0 := boxRow.cell hR (j := 0) rfl
    have r1 := boxRow.cell hR (j := 1) rfl
    have r2 := boxRow.cell hR (j := 2) rfl
    have r3 := boxRow.cell hR (j := 3) rfl
    have q0 := boxRow.froz hR 0
    have q1 := boxRow.froz hR 1
    have q2 := boxRow.froz hR 2
    have q3 := boxRow.froz hR 3
    have rl := (boxRow.lt hR).2
    have hf := fill9 h5 (.slice al u.log.length cl) (.slice (some ⟨bm, 0, none⟩) np np) (.slice (some ⟨bw, 0, none⟩) np np) (.int .i64 tt)
    have hB := hf.1.own (boxRow (w.heap.size + 1) 51 [.slice al u.log.length cl, .slice (some ⟨bm, 0, none⟩) np np, .slice (some ⟨bw, 0, none⟩) np np, .int .i64 tt]) (by simp)
    have Hrc := Lib.hid (And.intro (boxRow.cell hB (j := 0) rfl) (And.intro (boxRow.cell hB (j := 1) rfl) (And.intro (boxRow.cell hB (j := 2) rfl) (boxRow.cell hB (j := 3) rfl))))
    have HB := Lib.hid (hlow.trans (hf.2.below (fun j e => by omega) hlow.size))
    have HRes := Lib.hid (And.intro (hf.1.own (fiRow (.slice al u.log.length cl) u.log) (by simp)) (And.intro (hf.1.own (intRow (.slice (some ⟨bm, 0, none⟩) np np) u.m) (by simp)) (hf.1.own (intRow (.slice (some ⟨bw, 0, none⟩) np np) (wayL u.m.length u.q)) (by simp))))
    obtain ⟨ll, hll⟩ : ∃ k, k = u.log.length := ⟨_, rfl⟩
    rw [← hll] at Hrc HB HRes ⊢
    unfold nilS at r0 r1 r2 r3
    have Hll := Lib.hid hll
    clear h3 hre hc2 how hb4 hall hlow hBr hRB RB h5 hR hf hB hll
    simp only [resV]
    go_wp2
    obtain ⟨rc0, rc1, rc2, rc3⟩ := Hrc.out
    have hres := HRes.out
    have hfin : ResAt _ (.slice al ll cl) (.slice (some ⟨bm, 0, none⟩) np np) (.slice (some ⟨bw, 0, none⟩) np np) u := And.intro (RowAt.of_own hres.1) (And.intro (OwnI.at_ hres.2.1) (OwnI.at_ hres.2.2))
    try simp only [Exit.inBlock, Exit.then]
    refine bodyPost_ret (run_ret _ _ _ _ _ _ _ rc0 rc1 rc2 rc3 _ rfl rfl) rfl ?_
    exact ⟨al, ll, cl, bm, np, bw, np, rfl, Hll.out, rfl, hfin, HB.out⟩
end Go.Proofs.Ytpbbdnicafifpaa
