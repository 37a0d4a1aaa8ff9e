/-
  What fire comes to: it is logged, its tokens are taken, what it gives is under way, and what is due arrives.
  Conditions: none beyond each theorem's own.
-/
import Derived.Test.YtpfdmmidomofdaaRunD
import Derived.Deep.CutRange
import Derived.Deep.RegionHeld3
namespace Go.Proofs.Ytpfdmmidomofdaa
open Go.RowKit
set_option linter.unusedVariables false

theorem outs_take {t d : Int} {l : List (Int × Int)} {k : Nat} {a : Int × Int} (h : l[k]? = some a) : (outs t d l).take (k + 1) = (outs t d l).take k ++ [⟨t + d, a.1, a.2⟩] := by
  refine take_at ?_
  unfold outs
  rw [List.getElem?_map, h]; rfl
theorem outs_len (t d : Int) (l : List (Int × Int)) : (outs t d l).length = l.length := by unfold outs; simp

set_option maxRecDepth 100000 in
set_option maxHeartbeats 4000000 in
theorem fire_any {n : Nt} {w0 w : World} {b bm nm cm np nt cp ct i : Nat} {ap at_ : Option Addr} {t : Int} {s : St} {more : List Row} {x : Tr} (hn : NOk n) (hI : Inv n t s) (hnm : nm = s.m.length) (hnt : nt = n.trans.length) (hnet : NetAt w0 (.slice ap np cp) (.slice at_ nt ct) n) (hx : n.trans[i]? = some x) (hm : mayB s.m x.inn x.nt = true) (hl : s.log.length < 2000) (h : RunAt w0 w b (.slice ap np cp) (.slice at_ nt ct) bm nm cm t s more) :
    Calls Try.prog 86 #[.pointer (some ⟨b, 0, none⟩), .int .i64 i] w fun e w' => e = .returned (.bool true) ∧ RunAt w0 w' b (.slice ap np cp) (.slice at_ nt ct) bm nm cm t (fire t i x s) more := by
  have hF := fired_inv hn hI hx hm hl
  have hd := hn.dly x (hn.at_ hx)
  have hol := (hn.len x (hn.at_ hx)).2.2
  have hfit := (hn.fits hI.len) x (hn.at_ hx)
  have htb := hI.tb
  have hql := hI.ql
  obtain ⟨_, l, hl2, htr⟩ := hnet
  obtain ⟨g, off, a1, c1, a2, c2, a3, c3, rfl, hgw0, z0, z1, z2, z3, z4, z5, hA1, _, hA3⟩ := htr.at_ (i := i) (t := x) (by rw [hl2]; exact hx)
  have hlow := h.low
  have e0 := (below_cells hlow g _ hgw0).trans z0
  have e1 := (below_cells hlow g _ hgw0).trans z1
  have e2 := (below_cells hlow g _ hgw0).trans z2
  have e3 := (below_cells hlow g _ hgw0).trans z3
  have e4 := (below_cells hlow g _ hgw0).trans z4
  have e5 := (below_cells hlow g _ hgw0).trans z5
  have hgw : g < w.heap.size := Nat.lt_of_lt_of_le hgw0 hlow.size
  obtain ⟨k0, k1, _, _, kb, _⟩ := h.cells
  have hlt : i < nt := by rw [hnt]; exact lt_at hx
  have hlti : (i : Int) < (nt : Int) := by omega
  obtain ⟨dl, hdl⟩ : ∃ k, k = x.delay := ⟨_, rfl⟩
  obtain ⟨pr, hpr⟩ : ∃ k, k = x.prio := ⟨_, rfl⟩
  obtain ⟨sx, hsx⟩ : ∃ k, k = x.name := ⟨_, rfl⟩
  obtain ⟨n1, hn1⟩ : ∃ k, k = x.inn.length := ⟨_, rfl⟩
  obtain ⟨n2, hn2⟩ : ∃ k, k = x.nt.length := ⟨_, rfl⟩
  obtain ⟨n3, hn3⟩ : ∃ k, k = x.out.length := ⟨_, rfl⟩
  rw [← hdl] at e1 hd
  rw [← hpr] at e2
  rw [← hsx] at e0
  rw [← hn1] at e3 hA1
  rw [← hn2] at e4
  rw [← hn3] at e5 hA3 hol
  have hwrap : IntKind.i64.wrap (t + dl) = t + dl := IntWalk.i64_in _ (by have := hI.ll; omega)
  have H1 := Lib.hid (h.box #[.string sx, .int .i64 dl, .int .i64 pr, .slice a1 n1 c1, .slice a2 n2 c2, .slice a3 n3 c3] 46)
  have HF := Lib.hid hF
  have HL := Lib.hid (show (fired t i x s).m.length = nm by rw [hF.len, hnm, hI.len])
  have HA1 := Lib.hid hA1
  have HA3 := Lib.hid hA3
  have Hn1 := Lib.hid hn1
  have Hn3 := Lib.hid hn3
  have Hdl := Lib.hid hdl
  have Hfit := Lib.hid hfit.1
  have Hnm := Lib.hid hnm
  have Hw := Lib.hid hwrap
  have Hql := Lib.hid (show s.q.length ≤ 16000 by omega)
  have Hll := Lib.hid hl
  have Hol := Lib.hid hol
  clear hn hI hnm hnt hx hm hl h hF hd hol hfit htb hql hl2 htr z0 z1 z2 z3 z4 z5 hA1 hA3 hlow hgw0 hn1 hn2 hn3 hdl hpr hsx hwrap
  go_enter Try.func86, Try.ntmps86
  go_upto_region 2 with (fail)
  clear e0 e1 e2 e3 e4 e5 k0 k1 kb hgw
  obtain ⟨B1, hB1⟩ : ∃ k, k = w.heap.size := ⟨_, rfl⟩
  have H1' := H1.out
  rw [← hB1] at H1' ⊢
  clear H1 hB1
  revert H1'
  generalize w.alloc (.cells #[.string sx, .int .i64 dl, .int .i64 pr, .slice a1 n1 c1, .slice a2 n2 c2, .slice a3 n3 c3] 46) = W
  intro h1
  go_cut [] from 16 to 30 (fun wc => RunAt w0 wc b (.slice ap np cp) (.slice (some ⟨g, off, none⟩) nt ct) bm nm cm t ⟨s.log ++ [(t, (i : Int))], s.m, s.q⟩ (more ++ [boxRow B1 46 [.string sx, .int .i64 dl, .int .i64 pr, .slice a1 n1 c1, .slice a2 n2 c2, .slice a3 n3 c3]]))
  case first =>
    have h2 := h1.go (Below.refl _ _).drew
    obtain ⟨al, cl, k2, _⟩ := h1.log
    obtain ⟨_, _, _, k5, kb, _⟩ := h1.cells
    obtain ⟨a9, n9, c9, w6, hr, h6, q1, q2, q3⟩ := h2.pushF (by have := Hll.out; omega) 33 t (i : Int) (a := al) (c := cl) k2
    have H6 := Lib.hid h6
    obtain ⟨ll, hll⟩ : ∃ k, k = s.log.length := ⟨_, rfl⟩
    rw [← hll] at k2 hr q1
    clear h1 h2 h6 hll
    go_region_law (first | (refine step_append_eq (by rfl) (.tmp 20) (.tmp 27) 33 (by rfl) (by rfl) (by rfl) hr ?_))
    all_goals
      go_wp2
      go_meet
      case rel => exact H6.out
  case rest =>
    rename World => W2
    have h6 := hcut
    clear hcut h1
    go_upto_region 3 with (fail)
    go_cut [] from 31 to 36 (fun wc => RunAt w0 wc b (.slice ap np cp) (.slice (some ⟨g, off, none⟩) nt ct) bm nm cm t ⟨s.log ++ [(t, (i : Int))], takeL x.inn s.m, s.q ++ (outs t dl x.out).take 0⟩ (more ++ [boxRow B1 46 [.string sx, .int .i64 dl, .int .i64 pr, .slice a1 n1 c1, .slice a2 n2 c2, .slice a3 n3 c3]]))
    case first =>
      have hT := h6.mem (r := boxRow B1 46 [.string sx, .int .i64 dl, .int .i64 pr, .slice a1 n1 c1, .slice a2 n2 c2, .slice a3 n3 c3]) (by simp)
      have f0 := boxRow.cell hT (j := 0) rfl
      have f1 := boxRow.cell hT (j := 1) rfl
      have f2 := boxRow.cell hT (j := 2) rfl
      have f3 := boxRow.cell hT (j := 3) rfl
      have f4 := boxRow.cell hT (j := 4) rfl
      have f5 := boxRow.cell hT (j := 5) rfl
      have fl := (boxRow.lt hT).2
      obtain ⟨_, _, k3, _, kb, _, kbm, _⟩ := h6.cells
      have h7 := h6.go (Below.refl _ _).drew
      have hoff : 0 < n1 → OffBlock (.slice a1 n1 c1) bm := by
        intro h0 k hk
        obtain ⟨b', o', n', c', e, rfl⟩ := hk
        injection e with e _ _
        obtain ⟨p0, hp0⟩ := at_lt (l := x.inn) (k := 0) (by rw [← Hn1.out]; exact h0)
        obtain ⟨b2, o2, e2, hb2, _⟩ := ArcsAt.at_ HA1.out (x := p0.1) (y := p0.2) hp0
        rw [e] at e2
        injection e2 with e2
        injection e2 with e2
        omega
      have HT := Lib.hid (take_any (s := sx) (d := dl) (p := pr) (a2 := a2) (n2 := n2) (c2 := c2) (a3 := a3) (n3 := n3) (c3 := c3) Hn1.out Hnm.out (HA1.out.below h7.low) hoff h7.ints Hfit.out)
      have H7 := Lib.hid h7
      clear h6 hT hoff h7 kbm
      go_region_law (first | (go_simp; go_at_call 70; refine HT.out.mono ?_; rintro e w7 ⟨rfl, ho, hk⟩; have H8 := Lib.hid (H7.out.take ho hk); clear ho hk))
      all_goals
        clear f0 f1 f2 f3 f4 f5 fl k3 kb HT H7
        go_wp2
        go_meet
        case rel =>
          rw [List.take_zero, List.append_nil]; exact H8.out
    case rest =>
      rename World => W3
      have h9 := hcut
      clear hcut h6
      have hT := h9.mem (r := boxRow B1 46 [.string sx, .int .i64 dl, .int .i64 pr, .slice a1 n1 c1, .slice a2 n2 c2, .slice a3 n3 c3]) (by simp)
      have f5 := boxRow.cell hT (j := 5) rfl
      have fl := (boxRow.lt hT).2
      have H9 := Lib.hid h9
      clear h9 hT
      go_wp2
      clear f5 fl
      go_loopw [40] (fun i1 wr => ∃ k : Nat, k ≤ n3 ∧ i1 = .int .i64 k ∧ RunAt w0 wr b (.slice ap np cp) (.slice (some ⟨g, off, none⟩) nt ct) bm nm cm t ⟨s.log ++ [(t, (i : Int))], takeL x.inn s.m, s.q ++ (outs t dl x.out).take k⟩ (more ++ [boxRow B1 46 [.string sx, .int .i64 dl, .int .i64 pr, .slice a1 n1 c1, .slice a2 n2 c2, .slice a3 n3 c3]])) (fun i1 _ => n3 - (intOf i1).toNat)
      case atStart => exact ⟨0, by omega, rfl, H9.out⟩
      case round =>
        rename World => v1
        obtain ⟨k, hk, rfl, h10⟩ := hrel
        have hn8 := Hol.out
        by_cases hlt2 : k < n3
        · obtain ⟨⟨y1, y2⟩, hy⟩ := at_lt (l := x.out) (k := k) (by rw [← Hn3.out]; exact hlt2)
          have hlti2 : (k : Int) < (n3 : Int) := by omega
          obtain ⟨g3, o3, rfl, hg3, y3, y4⟩ := ArcsAt.at_ (HA3.out.below h10.low) hy
          have Hy := Lib.hid hy
          have H10 := Lib.hid h10
          clear h10 hy
          go_upto_region 7 with (fail)
          clear y3 y4 hg3
          obtain ⟨B2, hB2⟩ : ∃ k, k = v1.heap.size := ⟨_, rfl⟩
          have h11 := H10.out.box #[.int .i64 y1, .int .i64 y2] 52
          rw [← hB2] at h11 ⊢
          clear H10 hB2
          revert h11
          generalize v1.alloc (.cells #[.int .i64 y1, .int .i64 y2] 52) = W1
          intro h11
          have hT := h11.mem (r := boxRow B1 46 [.string sx, .int .i64 dl, .int .i64 pr, .slice a1 n1 c1, .slice a2 n2 c2, .slice (some ⟨g3, o3, none⟩) n3 c3]) (by simp)
          have f1 := boxRow.cell hT (j := 1) rfl
          have fl := (boxRow.lt hT).2
          have hY := h11.mem (r := boxRow B2 52 [.int .i64 y1, .int .i64 y2]) (by simp)
          have j0 := boxRow.cell hY (j := 0) rfl
          have j1 := boxRow.cell hY (j := 1) rfl
          have jl := (boxRow.lt hY).2
          obtain ⟨aq, cq, k4, _⟩ := h11.way
          obtain ⟨_, _, _, k5, kb, _⟩ := h11.cells
          have h12 := h11.go (Below.refl _ _).drew
          have hlen : (s.q ++ (outs t dl x.out).take k).length ≤ 1000000 := by
            rw [List.length_append, List.length_take, outs_len, ← Hn3.out]
            have := Hql.out; omega
          obtain ⟨a7, n7, c7, w8, hr8, h13, q1, q2, q3⟩ := h12.pushE hlen 61 ⟨IntKind.i64.wrap (t + dl), y1, y2⟩ (a := aq) (c := cq) k4
          simp only at hr8 k4 q1
          obtain ⟨lq, hlq⟩ : ∃ j, j = (s.q ++ (outs t dl x.out).take k).length := ⟨_, rfl⟩
          rw [← hlq] at k4 hr8 q1
          have h14 : RunAt w0 (w8.setCell ⟨b, 4, none⟩ (.slice a7 n7 c7)) b (.slice ap np cp) (.slice (some ⟨g, off, none⟩) nt ct) bm nm cm t ⟨s.log ++ [(t, (i : Int))], takeL x.inn s.m, s.q ++ (outs t dl x.out).take (k + 1)⟩ (more ++ [boxRow B1 46 [.string sx, .int .i64 dl, .int .i64 pr, .slice a1 n1 c1, .slice a2 n2 c2, .slice (some ⟨g3, o3, none⟩) n3 c3]]) := by
            rw [outs_take Hy.out, ← List.append_assoc]
            have h15 := h13.sub (more' := more ++ [boxRow B1 46 [.string sx, .int .i64 dl, .int .i64 pr, .slice a1 n1 c1, .slice a2 n2 c2, .slice (some ⟨g3, o3, none⟩) n3 c3]]) (List.sublist_append_left _ _)
            rw [Hw.out] at h15
            exact h15
          have H14 := Lib.hid h14
          obtain ⟨_, _, _, h5, _⟩ := h13.cells
          have hT3 := h13.mem (r := boxRow B1 46 [.string sx, .int .i64 dl, .int .i64 pr, .slice a1 n1 c1, .slice a2 n2 c2, .slice (some ⟨g3, o3, none⟩) n3 c3]) (by simp)
          have h1 := boxRow.cell hT3 (j := 1) rfl
          have hY3 := h13.mem (r := boxRow B2 52 [.int .i64 y1, .int .i64 y2]) (by simp)
          have h20 := boxRow.cell hY3 (j := 0) rfl
          have h21 := boxRow.cell hY3 (j := 1) rfl
          have g5 : w8.cell? ⟨b, 5, none⟩ = some (.int .i64 t) := by rw [← h5]; exact (World.cell?_setCell_other _ _ _ _ (by simp)).symm
          have g1 : w8.cell? ⟨B1, 1, none⟩ = some (.int .i64 dl) := by rw [← h1]; exact (World.cell?_setCell_other _ _ _ _ (by simp)).symm
          have g20 : w8.cell? ⟨B2, 0, none⟩ = some (.int .i64 y1) := by rw [← h20]; exact (World.cell?_setCell_other _ _ _ _ (by simp)).symm
          have g21 : w8.cell? ⟨B2, 1, none⟩ = some (.int .i64 y2) := by rw [← h21]; exact (World.cell?_setCell_other _ _ _ _ (by simp)).symm
          clear h11 h12 h13 h14 hT hY hlq hlen
          refine wp_region_held_drew (S := (fun w' : World => w'.cell? ⟨b, 5, none⟩ = some (.int .i64 t) ∧ w'.cell? ⟨B1, 1, none⟩ = some (.int .i64 dl) ∧ w'.cell? ⟨B2, 0, none⟩ = some (.int .i64 y1) ∧ w'.cell? ⟨B2, 1, none⟩ = some (.int .i64 y2))) (by kernel_rfl) ⟨k5, f1, j0, j1⟩ (fun hHeld => ?_)
          refine wpAnyH_take (i := 0) (oi := { dst := some 44, op := Op.move (Operand.tmp 0), type := 112, pos := "plain.go:112", after := #[], guard := none }) (v := ?_) rfl (by kernel_rfl) (by kernel_rfl) (by kernel_rfl) (fun _ _ _ h => h) (Or.inl ⟨by rfl, ?hy1⟩) (by assumption) ?rest1
          case hy1 =>
            intro w hSw
            try dsimp only at hSw
            go_simp
            all_goals with_reducible rfl
          try simp only [Act.put, List.setIfInBounds_toArray, List.set_cons_zero, List.set_cons_succ]
          refine wpAnyH_take (i := 1) (oi := { dst := some 45, op := Op.move (Operand.tmp 0), type := 112, pos := "plain.go:112", after := #[], guard := none }) (v := ?_) rfl (by kernel_rfl) (by kernel_rfl) (by kernel_rfl) (fun _ _ _ h => h) (Or.inl ⟨by rfl, ?hy2⟩) (by assumption) ?rest2
          case hy2 =>
            intro w hSw
            try dsimp only at hSw
            go_simp
            all_goals with_reducible rfl
          try simp only [Act.put, List.setIfInBounds_toArray, List.set_cons_zero, List.set_cons_succ]
          refine wpAnyH_take (i := 2) (oi := { dst := some 46, op := Op.nilCheck (Operand.tmp 45), type := 0, pos := "plain.go:112", after := #[{ on := 1, ground := Ground.data }], guard := none }) (v := ?_) rfl (by kernel_rfl) (by kernel_rfl) (by kernel_rfl) (fun _ _ _ h => h) (Or.inl ⟨by rfl, ?hy3⟩) (by assumption) ?rest3
          case hy3 =>
            intro w hSw
            try dsimp only at hSw
            go_simp
            all_goals with_reducible rfl
          try simp only [Act.put, List.setIfInBounds_toArray, List.set_cons_zero, List.set_cons_succ]
          refine wpAnyH_take (i := 3) (oi := { dst := some 47, op := Op.fieldAddr 81 (Operand.tmp 46) 3, type := 0, pos := "plain.go:112", after := #[{ on := 2, ground := Ground.data }], guard := none }) (v := ?_) rfl (by kernel_rfl) (by kernel_rfl) (by kernel_rfl) (fun _ _ _ h => h) (Or.inl ⟨by rfl, ?hy4⟩) (by assumption) ?rest4
          case hy4 =>
            intro w hSw
            try dsimp only at hSw
            go_simp
            all_goals with_reducible rfl
          try simp only [Act.put, List.setIfInBounds_toArray, List.set_cons_zero, List.set_cons_succ]
          refine wpAnyH_take (i := 5) (oi := { dst := some 49, op := Op.move (Operand.tmp 0), type := 112, pos := "plain.go:112", after := #[], guard := none }) (v := ?_) rfl (by kernel_rfl) (by kernel_rfl) (by kernel_rfl) (fun _ _ _ h => h) (Or.inl ⟨by rfl, ?hy5⟩) (by assumption) ?rest5
          case hy5 =>
            intro w hSw
            try dsimp only at hSw
            go_simp
            all_goals with_reducible rfl
          try simp only [Act.put, List.setIfInBounds_toArray, List.set_cons_zero, List.set_cons_succ]
          refine wpAnyH_take (i := 6) (oi := { dst := some 50, op := Op.nilCheck (Operand.tmp 49), type := 0, pos := "plain.go:112", after := #[{ on := 5, ground := Ground.data }], guard := none }) (v := ?_) rfl (by kernel_rfl) (by kernel_rfl) (by kernel_rfl) (fun _ _ _ h => h) (Or.inl ⟨by rfl, ?hy6⟩) (by assumption) ?rest6
          case hy6 =>
            intro w hSw
            try dsimp only at hSw
            go_simp
            all_goals with_reducible rfl
          try simp only [Act.put, List.setIfInBounds_toArray, List.set_cons_zero, List.set_cons_succ]
          refine wpAnyH_take (i := 7) (oi := { dst := some 51, op := Op.fieldAddr 81 (Operand.tmp 50) 4, type := 0, pos := "plain.go:112", after := #[{ on := 6, ground := Ground.data }], guard := none }) (v := ?_) rfl (by kernel_rfl) (by kernel_rfl) (by kernel_rfl) (fun _ _ _ h => h) (Or.inl ⟨by rfl, ?hy7⟩) (by assumption) ?rest7
          case hy7 =>
            intro w hSw
            try dsimp only at hSw
            go_simp
            all_goals with_reducible rfl
          try simp only [Act.put, List.setIfInBounds_toArray, List.set_cons_zero, List.set_cons_succ]
          refine wpAnyH_take (i := 8) (oi := { dst := some 52, op := Op.load 3 (Operand.tmp 51), type := 3, pos := "plain.go:112", after := #[{ on := 7, ground := Ground.data }], guard := none }) (v := ?_) rfl (by kernel_rfl) (by kernel_rfl) (by kernel_rfl) (fun _ _ _ h => h) (Or.inl ⟨by rfl, ?hy8⟩) (by assumption) ?rest8
          case hy8 =>
            intro w hSw
            try dsimp only at hSw
            go_simp
            all_goals with_reducible rfl
          try simp only [Act.put, List.setIfInBounds_toArray, List.set_cons_zero, List.set_cons_succ]
          refine wpAnyH_take (i := 9) (oi := { dst := some 53, op := Op.fieldAddr 46 (Operand.tmp 5) 1, type := 0, pos := "plain.go:112", after := #[], guard := none }) (v := ?_) rfl (by kernel_rfl) (by kernel_rfl) (by kernel_rfl) (fun _ _ _ h => h) (Or.inl ⟨by rfl, ?hy9⟩) (by assumption) ?rest9
          case hy9 =>
            intro w hSw
            try dsimp only at hSw
            go_simp
            all_goals with_reducible rfl
          try simp only [Act.put, List.setIfInBounds_toArray, List.set_cons_zero, List.set_cons_succ]
          refine wpAnyH_take (i := 10) (oi := { dst := some 54, op := Op.load 3 (Operand.tmp 53), type := 3, pos := "plain.go:112", after := #[{ on := 9, ground := Ground.data }], guard := none }) (v := ?_) rfl (by kernel_rfl) (by kernel_rfl) (by kernel_rfl) (fun _ _ _ h => h) (Or.inl ⟨by rfl, ?hy10⟩) (by assumption) ?rest10
          case hy10 =>
            intro w hSw
            try dsimp only at hSw
            go_simp
            all_goals with_reducible rfl
          try simp only [Act.put, List.setIfInBounds_toArray, List.set_cons_zero, List.set_cons_succ]
          refine wpAnyH_take (i := 11) (oi := { dst := some 55, op := Op.binOp BinOp.add 3 (Operand.tmp 52) (Operand.tmp 54) 3, type := 3, pos := "plain.go:112", after := #[{ on := 8, ground := Ground.data }, { on := 10, ground := Ground.data }], guard := none }) (v := ?_) rfl (by kernel_rfl) (by kernel_rfl) (by kernel_rfl) (fun _ _ _ h => h) (Or.inl ⟨by rfl, ?hy11⟩) (by assumption) ?rest11
          case hy11 =>
            intro w hSw
            try dsimp only at hSw
            go_simp
            all_goals with_reducible rfl
          try simp only [Act.put, List.setIfInBounds_toArray, List.set_cons_zero, List.set_cons_succ]
          refine wpAnyH_take (i := 12) (oi := { dst := some 56, op := Op.fieldAddr 52 (Operand.tmp 7) 0, type := 0, pos := "plain.go:112", after := #[], guard := none }) (v := ?_) rfl (by kernel_rfl) (by kernel_rfl) (by kernel_rfl) (fun _ _ _ h => h) (Or.inl ⟨by rfl, ?hy12⟩) (by assumption) ?rest12
          case hy12 =>
            intro w hSw
            try dsimp only at hSw
            go_simp
            all_goals with_reducible rfl
          try simp only [Act.put, List.setIfInBounds_toArray, List.set_cons_zero, List.set_cons_succ]
          refine wpAnyH_take (i := 13) (oi := { dst := some 57, op := Op.load 3 (Operand.tmp 56), type := 3, pos := "plain.go:112", after := #[{ on := 12, ground := Ground.data }], guard := none }) (v := ?_) rfl (by kernel_rfl) (by kernel_rfl) (by kernel_rfl) (fun _ _ _ h => h) (Or.inl ⟨by rfl, ?hy13⟩) (by assumption) ?rest13
          case hy13 =>
            intro w hSw
            try dsimp only at hSw
            go_simp
            all_goals with_reducible rfl
          try simp only [Act.put, List.setIfInBounds_toArray, List.set_cons_zero, List.set_cons_succ]
          refine wpAnyH_take (i := 14) (oi := { dst := some 58, op := Op.fieldAddr 52 (Operand.tmp 7) 1, type := 0, pos := "plain.go:112", after := #[], guard := none }) (v := ?_) rfl (by kernel_rfl) (by kernel_rfl) (by kernel_rfl) (fun _ _ _ h => h) (Or.inl ⟨by rfl, ?hy14⟩) (by assumption) ?rest14
          case hy14 =>
            intro w hSw
            try dsimp only at hSw
            go_simp
            all_goals with_reducible rfl
          try simp only [Act.put, List.setIfInBounds_toArray, List.set_cons_zero, List.set_cons_succ]
          refine wpAnyH_take (i := 15) (oi := { dst := some 59, op := Op.load 3 (Operand.tmp 58), type := 3, pos := "plain.go:112", after := #[{ on := 14, ground := Ground.data }], guard := none }) (v := ?_) rfl (by kernel_rfl) (by kernel_rfl) (by kernel_rfl) (fun _ _ _ h => h) (Or.inl ⟨by rfl, ?hy15⟩) (by assumption) ?rest15
          case hy15 =>
            intro w hSw
            try dsimp only at hSw
            go_simp
            all_goals with_reducible rfl
          try simp only [Act.put, List.setIfInBounds_toArray, List.set_cons_zero, List.set_cons_succ]
          refine wpAnyH_take (i := 16) (oi := { dst := some 60, op := Op.build 65 #[(0, Operand.tmp 55), (1, Operand.tmp 57), (2, Operand.tmp 59)], type := 65, pos := "plain.go:112", after := #[{ on := 11, ground := Ground.data }, { on := 13, ground := Ground.data }, { on := 15, ground := Ground.data }], guard := none }) (v := ?_) rfl (by kernel_rfl) (by kernel_rfl) (by kernel_rfl) (fun _ _ _ h => h) (Or.inl ⟨by rfl, ?hy16⟩) (by assumption) ?rest16
          case hy16 =>
            intro w hSw
            try dsimp only at hSw
            go_simp
            all_goals with_reducible rfl
          try simp only [Act.put, List.setIfInBounds_toArray, List.set_cons_zero, List.set_cons_succ]
          refine wpAnyH_ready (rs := [4, 17]) (by kernel_rfl) (by simp) ?_
          refine AllReadyH.cons (o := { dst := some 48, op := Op.load 61 (Operand.tmp 47), type := 61, pos := "plain.go:112", after := #[{ on := 3, ground := Ground.data }], guard := none }) rfl (fun K hK => ?step17) ?more17
          case step17 =>
            go_simp
            refine hK.out _ _ ?hs17 (fun hHeld => ?go17)
            case hs17 => assumption
            clear hK K
            try simp only [Act.put, List.setIfInBounds_toArray, List.set_cons_zero, List.set_cons_succ]
            refine wpAnyH_ready (rs := [17]) (by kernel_rfl) (by simp) ?_
            refine AllReadyH.cons (o := { dst := some 61, op := Op.buildSlice 61 1 #[(0, Operand.tmp 60)], type := 61, pos := "plain.go:112", after := #[{ on := 16, ground := Ground.data }], guard := none }) rfl (fun K hK => ?step18) ?more18
            case step18 =>
              go_simp
              refine hK.out _ _ ?hs18 (fun hHeld => ?go18)
              case hs18 => exact ⟨by go_simp, by go_simp, by go_simp, by go_simp⟩
              clear hK K
              try simp only [Act.put, List.setIfInBounds_toArray, List.set_cons_zero, List.set_cons_succ]
              refine wpAnyH_ready (rs := [18]) (by kernel_rfl) (by simp) ?_
              refine AllReadyH.cons (o := { dst := some 62, op := Op.call { callee := Callee.builtin Builtin.append, args := #[Operand.tmp 48, Operand.tmp 61], argTypes := #[61, 61] }, type := 61, pos := "plain.go:112", after := #[{ on := 4, ground := Ground.data }, { on := 17, ground := Ground.data }], guard := none }) rfl (fun K hK => ?step19) ?more19
              case step19 =>
                refine step_append_eq (by rfl) (.tmp 48) (.tmp 61) 61 (by rfl) (by rfl) (by rfl) hr8 ?_
                refine hK.out _ _ ?hs19 (fun hHeld => ?go19)
                case hs19 => exact ⟨g5, g1, g20, g21⟩
                clear hK K
                try simp only [Act.put, List.setIfInBounds_toArray, List.set_cons_zero, List.set_cons_succ]
                refine wpAnyH_ready (rs := [19]) (by kernel_rfl) (by simp) ?_
                refine AllReadyH.cons (o := { dst := some 63, op := Op.nilCheck (Operand.tmp 44), type := 0, pos := "plain.go:112", after := #[{ on := 0, ground := Ground.data }, { on := 0, ground := Ground.phase }, { on := 1, ground := Ground.phase }, { on := 2, ground := Ground.phase }, { on := 3, ground := Ground.phase }, { on := 4, ground := Ground.phase }, { on := 5, ground := Ground.phase }, { on := 6, ground := Ground.phase }, { on := 7, ground := Ground.phase }, { on := 8, ground := Ground.phase }, { on := 9, ground := Ground.phase }, { on := 10, ground := Ground.phase }, { on := 11, ground := Ground.phase }, { on := 12, ground := Ground.phase }, { on := 13, ground := Ground.phase }, { on := 14, ground := Ground.phase }, { on := 15, ground := Ground.phase }, { on := 16, ground := Ground.phase }, { on := 17, ground := Ground.phase }, { on := 18, ground := Ground.phase }], guard := none }) rfl (fun K hK => ?step20) ?more20
                case step20 =>
                  go_simp
                  refine hK.out _ _ ?hs20 (fun hHeld => ?go20)
                  case hs20 => assumption
                  clear hK K
                  try simp only [Act.put, List.setIfInBounds_toArray, List.set_cons_zero, List.set_cons_succ]
                  refine wpAnyH_ready (rs := [20]) (by kernel_rfl) (by simp) ?_
                  refine AllReadyH.cons (o := { dst := some 64, op := Op.fieldAddr 81 (Operand.tmp 63) 3, type := 0, pos := "plain.go:112", after := #[{ on := 19, ground := Ground.data }, { on := 0, ground := Ground.phase }, { on := 1, ground := Ground.phase }, { on := 2, ground := Ground.phase }, { on := 3, ground := Ground.phase }, { on := 4, ground := Ground.phase }, { on := 5, ground := Ground.phase }, { on := 6, ground := Ground.phase }, { on := 7, ground := Ground.phase }, { on := 8, ground := Ground.phase }, { on := 9, ground := Ground.phase }, { on := 10, ground := Ground.phase }, { on := 11, ground := Ground.phase }, { on := 12, ground := Ground.phase }, { on := 13, ground := Ground.phase }, { on := 14, ground := Ground.phase }, { on := 15, ground := Ground.phase }, { on := 16, ground := Ground.phase }, { on := 17, ground := Ground.phase }, { on := 18, ground := Ground.phase }], guard := none }) rfl (fun K hK => ?step21) ?more21
                  case step21 =>
                    go_simp
                    refine hK.out _ _ ?hs21 (fun hHeld => ?go21)
                    case hs21 => assumption
                    clear hK K
                    try simp only [Act.put, List.setIfInBounds_toArray, List.set_cons_zero, List.set_cons_succ]
                    refine wpAnyH_ready (rs := [21]) (by kernel_rfl) (by simp) ?_
                    refine AllReadyH.cons (o := { dst := none, op := Op.store 61 (Operand.tmp 64) (Operand.tmp 62), type := 0, pos := "plain.go:112", after := #[{ on := 20, ground := Ground.data }, { on := 18, ground := Ground.data }, { on := 18, ground := Ground.chain }, { on := 0, ground := Ground.phase }, { on := 1, ground := Ground.phase }, { on := 2, ground := Ground.phase }, { on := 3, ground := Ground.phase }, { on := 4, ground := Ground.phase }, { on := 5, ground := Ground.phase }, { on := 6, ground := Ground.phase }, { on := 7, ground := Ground.phase }, { on := 8, ground := Ground.phase }, { on := 9, ground := Ground.phase }, { on := 10, ground := Ground.phase }, { on := 11, ground := Ground.phase }, { on := 12, ground := Ground.phase }, { on := 13, ground := Ground.phase }, { on := 14, ground := Ground.phase }, { on := 15, ground := Ground.phase }, { on := 16, ground := Ground.phase }, { on := 17, ground := Ground.phase }, { on := 18, ground := Ground.phase }], guard := none }) rfl (fun K hK => ?step22) ?more22
                    case step22 =>
                      go_simp
                      refine hK.out _ _ ?hs22 (fun hHeld => ?go22)
                      case hs22 => exact ⟨h5, h1, h20, h21⟩
                      clear hK K
                      try simp only [Act.put, List.setIfInBounds_toArray, List.set_cons_zero, List.set_cons_succ]
                      refine wpAnyH_done (by kernel_rfl) ?_ _
                      clear hHeld hr8 k4 k5 kb q1 q2 q3 f1 fl j0 j1 jl g5 g1 g20 g21 h5 h1 h20 h21
                      go_wp2
                      go_roundw
                      case rel => exact ⟨k + 1, by omega, by go_num, H14.out⟩
                      case measure => simp [intOf]; omega
                    case more22 => exact AllReadyH.nil
                  case more21 => exact AllReadyH.nil
                case more20 => exact AllReadyH.nil
              case more19 => exact AllReadyH.nil
            case more18 => exact AllReadyH.nil
          case more17 =>
            refine AllReadyH.cons (o := { dst := some 61, op := Op.buildSlice 61 1 #[(0, Operand.tmp 60)], type := 61, pos := "plain.go:112", after := #[{ on := 16, ground := Ground.data }], guard := none }) rfl (fun K hK => ?step23) ?more23
            case step23 =>
              go_simp
              refine hK.out _ _ ?hs23 (fun hHeld => ?go23)
              case hs23 => exact ⟨by go_simp, by go_simp, by go_simp, by go_simp⟩
              clear hK K
              try simp only [Act.put, List.setIfInBounds_toArray, List.set_cons_zero, List.set_cons_succ]
              refine wpAnyH_ready (rs := [4]) (by kernel_rfl) (by simp) ?_
              refine AllReadyH.cons (o := { dst := some 48, op := Op.load 61 (Operand.tmp 47), type := 61, pos := "plain.go:112", after := #[{ on := 3, ground := Ground.data }], guard := none }) rfl (fun K hK => ?step24) ?more24
              case step24 =>
                go_simp
                refine hK.out _ _ ?hs24 (fun hHeld => ?go24)
                case hs24 => assumption
                clear hK K
                try simp only [Act.put, List.setIfInBounds_toArray, List.set_cons_zero, List.set_cons_succ]
                refine wpAnyH_ready (rs := [18]) (by kernel_rfl) (by simp) ?_
                refine AllReadyH.cons (o := { dst := some 62, op := Op.call { callee := Callee.builtin Builtin.append, args := #[Operand.tmp 48, Operand.tmp 61], argTypes := #[61, 61] }, type := 61, pos := "plain.go:112", after := #[{ on := 4, ground := Ground.data }, { on := 17, ground := Ground.data }], guard := none }) rfl (fun K hK => ?step25) ?more25
                case step25 =>
                  refine step_append_eq (by rfl) (.tmp 48) (.tmp 61) 61 (by rfl) (by rfl) (by rfl) hr8 ?_
                  refine hK.out _ _ ?hs25 (fun hHeld => ?go25)
                  case hs25 => exact ⟨g5, g1, g20, g21⟩
                  clear hK K
                  try simp only [Act.put, List.setIfInBounds_toArray, List.set_cons_zero, List.set_cons_succ]
                  refine wpAnyH_ready (rs := [19]) (by kernel_rfl) (by simp) ?_
                  refine AllReadyH.cons (o := { dst := some 63, op := Op.nilCheck (Operand.tmp 44), type := 0, pos := "plain.go:112", after := #[{ on := 0, ground := Ground.data }, { on := 0, ground := Ground.phase }, { on := 1, ground := Ground.phase }, { on := 2, ground := Ground.phase }, { on := 3, ground := Ground.phase }, { on := 4, ground := Ground.phase }, { on := 5, ground := Ground.phase }, { on := 6, ground := Ground.phase }, { on := 7, ground := Ground.phase }, { on := 8, ground := Ground.phase }, { on := 9, ground := Ground.phase }, { on := 10, ground := Ground.phase }, { on := 11, ground := Ground.phase }, { on := 12, ground := Ground.phase }, { on := 13, ground := Ground.phase }, { on := 14, ground := Ground.phase }, { on := 15, ground := Ground.phase }, { on := 16, ground := Ground.phase }, { on := 17, ground := Ground.phase }, { on := 18, ground := Ground.phase }], guard := none }) rfl (fun K hK => ?step26) ?more26
                  case step26 =>
                    go_simp
                    refine hK.out _ _ ?hs26 (fun hHeld => ?go26)
                    case hs26 => assumption
                    clear hK K
                    try simp only [Act.put, List.setIfInBounds_toArray, List.set_cons_zero, List.set_cons_succ]
                    refine wpAnyH_ready (rs := [20]) (by kernel_rfl) (by simp) ?_
                    refine AllReadyH.cons (o := { dst := some 64, op := Op.fieldAddr 81 (Operand.tmp 63) 3, type := 0, pos := "plain.go:112", after := #[{ on := 19, ground := Ground.data }, { on := 0, ground := Ground.phase }, { on := 1, ground := Ground.phase }, { on := 2, ground := Ground.phase }, { on := 3, ground := Ground.phase }, { on := 4, ground := Ground.phase }, { on := 5, ground := Ground.phase }, { on := 6, ground := Ground.phase }, { on := 7, ground := Ground.phase }, { on := 8, ground := Ground.phase }, { on := 9, ground := Ground.phase }, { on := 10, ground := Ground.phase }, { on := 11, ground := Ground.phase }, { on := 12, ground := Ground.phase }, { on := 13, ground := Ground.phase }, { on := 14, ground := Ground.phase }, { on := 15, ground := Ground.phase }, { on := 16, ground := Ground.phase }, { on := 17, ground := Ground.phase }, { on := 18, ground := Ground.phase }], guard := none }) rfl (fun K hK => ?step27) ?more27
                    case step27 =>
                      go_simp
                      refine hK.out _ _ ?hs27 (fun hHeld => ?go27)
                      case hs27 => assumption
                      clear hK K
                      try simp only [Act.put, List.setIfInBounds_toArray, List.set_cons_zero, List.set_cons_succ]
                      refine wpAnyH_ready (rs := [21]) (by kernel_rfl) (by simp) ?_
                      refine AllReadyH.cons (o := { dst := none, op := Op.store 61 (Operand.tmp 64) (Operand.tmp 62), type := 0, pos := "plain.go:112", after := #[{ on := 20, ground := Ground.data }, { on := 18, ground := Ground.data }, { on := 18, ground := Ground.chain }, { on := 0, ground := Ground.phase }, { on := 1, ground := Ground.phase }, { on := 2, ground := Ground.phase }, { on := 3, ground := Ground.phase }, { on := 4, ground := Ground.phase }, { on := 5, ground := Ground.phase }, { on := 6, ground := Ground.phase }, { on := 7, ground := Ground.phase }, { on := 8, ground := Ground.phase }, { on := 9, ground := Ground.phase }, { on := 10, ground := Ground.phase }, { on := 11, ground := Ground.phase }, { on := 12, ground := Ground.phase }, { on := 13, ground := Ground.phase }, { on := 14, ground := Ground.phase }, { on := 15, ground := Ground.phase }, { on := 16, ground := Ground.phase }, { on := 17, ground := Ground.phase }, { on := 18, ground := Ground.phase }], guard := none }) rfl (fun K hK => ?step28) ?more28
                      case step28 =>
                        go_simp
                        refine hK.out _ _ ?hs28 (fun hHeld => ?go28)
                        case hs28 => exact ⟨h5, h1, h20, h21⟩
                        clear hK K
                        try simp only [Act.put, List.setIfInBounds_toArray, List.set_cons_zero, List.set_cons_succ]
                        refine wpAnyH_done (by kernel_rfl) ?_ _
                        clear hHeld hr8 k4 k5 kb q1 q2 q3 f1 fl j0 j1 jl g5 g1 g20 g21 h5 h1 h20 h21
                        go_wp2
                        go_roundw
                        case rel => exact ⟨k + 1, by omega, by go_num, H14.out⟩
                        case measure => simp [intOf]; omega
                      case more28 => exact AllReadyH.nil
                    case more27 => exact AllReadyH.nil
                  case more26 => exact AllReadyH.nil
                case more25 => exact AllReadyH.nil
              case more24 => exact AllReadyH.nil
            case more23 => exact AllReadyH.nil
        · have hge2 : ¬ (k : Int) < (n3 : Int) := by omega
          have h16 : RunAt w0 v1 b (.slice ap np cp) (.slice (some ⟨g, off, none⟩) nt ct) bm nm cm t (fired t i x s) (more ++ [boxRow B1 46 [.string sx, .int .i64 dl, .int .i64 pr, .slice a1 n1 c1, .slice a2 n2 c2, .slice a3 n3 c3]]) := by
            rw [List.take_of_length_le (by rw [outs_len, ← Hn3.out]; omega)] at h10
            unfold fired
            rw [← Hdl.out]
            exact h10
          have HR := Lib.hid (arrive_any HF.out HL.out.symm h16)
          clear h10 h16
          go_wp2_with (go_at_call 83; refine HR.out.mono ?_; rintro e w9 ⟨rfl, h17⟩; have H17 := Lib.hid h17; clear h17)
          go_ret
          exact ⟨rfl, H17.out.sub (List.sublist_append_left _ _)⟩
end Go.Proofs.Ytpfdmmidomofdaa
