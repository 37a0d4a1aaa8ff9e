/-
  What fire of the engine comes to: as the run's fire, but for what is told.
  Conditions: none beyond each theorem's own.
-/
import Derived.Test.YtpbbdnicafifpaaEgI
import Derived.Deep.CutRange
import Derived.Deep.RegionHeld3
namespace Go.Proofs.Ytpbbdnicafifpaa
open Go.RowKit
set_option linter.unusedVariables false

theorem EgSt.plus {c : EC} {mine : Nat → Bool} {e : Eg} {s : St} (h : EgSt c mine e s) (r : Row) : EgSt (c.plus r) mine e s := ⟨h.heap, h.perm, h.m, h.log, h.way, h.rq, h.cov⟩
theorem EgSt.minus {c : EC} {mine : Nat → Bool} {e : Eg} {s : St} {r : Row} (h : EgSt (c.plus r) mine e s) : EgSt c mine e s := ⟨h.heap, h.perm, h.m, h.log, h.way, h.rq, h.cov⟩
theorem EyesOk.plus {c : EC} {mine : Nat → Bool} (h : EyesOk c mine) (r : Row) : EyesOk (c.plus r) mine := ⟨h.len, h.all⟩

set_option maxRecDepth 100000 in
set_option maxHeartbeats 4000000 in
theorem efire_any {w0 w : World} {c : EC} {e : Eg} {s : St} {mine : Nat → Bool} {n' : Nt} {x x' : Tr} {i : Nat} (hc : EOk c) (hE : EyesOk c mine) (haw : c.aw.length = c.n.places.length) (h : EgAt w0 w c e) (hn' : NOk n') (hI : Inv n' e.t s) (hAf : After e.t s) (hP : n'.places.length = c.n.places.length)
    (hx : c.n.trans[i]? = some x) (hx' : n'.trans[i]? = some x') (hinn : x'.inn = x.inn) (hnt' : x'.nt = x.nt) (hout : x'.out = homeL c x.out) (hdel : x'.delay = x.delay) (hmay : mayB s.m x'.inn x'.nt = true) (hl : s.log.length < 2000) (hS : EgSt c mine e s) (hto : e.told.length ≤ 500000) :
    Calls Try.prog 64 #[.pointer (some ⟨c.b, 0, none⟩), .int .i64 i] w fun r w' => r = .returned (.bool true) ∧ ∃ e', EgAt w0 w' c e' ∧ EgSt c mine e' (fire e.t i x' s) ∧ e'.t = e.t ∧ e'.told = e.told ++ outs e.t x.delay (awayL c x.out) := by
  have hmx := hc.nok.at_ hx
  have hd := hc.nok.dly x hmx
  have htb := hI.tb
  have hll0 := hI.ll
  obtain ⟨g, off, ct, a1, c1, a2, c2, a3, c3, evt, hgw, z0, z1, z2, z3, z4, z5, hAr, hoff⟩ := h.trAt hc.l hx
  have k1 := h.cells.2.1
  have kb := h.cells.2.2.2.2.2.2.2.2.1
  rw [evt] at k1
  have hlt : i < c.n.trans.length := lt_at hx
  obtain ⟨nt, hnt⟩ : ∃ k, k = c.n.trans.length := ⟨_, rfl⟩
  rw [← hnt] at k1 hlt
  have hlti : (i : Int) < (nt : Int) := by omega
  have hml : s.m.length = c.n.places.length := by rw [hI.len, hP]
  have hol := (hc.nok.len x hmx).2.2
  have hil := (hc.nok.len x hmx).1
  obtain ⟨t, hte⟩ : ∃ t, t = e.t := ⟨_, rfl⟩
  obtain ⟨dl, hdl⟩ : ∃ k, k = x.delay := ⟨_, rfl⟩
  obtain ⟨pr, hpr⟩ : ∃ k, k = x.prio := ⟨_, rfl⟩
  obtain ⟨sx, hsx⟩ : ∃ k, k = x.name := ⟨_, rfl⟩
  obtain ⟨n1, hn1⟩ : ∃ k, k = x.inn.length := ⟨_, rfl⟩
  obtain ⟨n2, hn2⟩ : ∃ k, k = x.nt.length := ⟨_, rfl⟩
  obtain ⟨n3, hn3⟩ : ∃ k, k = x.out.length := ⟨_, rfl⟩
  rw [← hdl] at z1 hd
  rw [← hpr] at z2
  rw [← hsx] at z0
  rw [← hn1] at z3 hAr hoff hil
  rw [← hn2] at z4
  rw [← hn3] at z5 hAr hol
  rw [← hte] at htb
  have hwr : IntKind.i64.wrap (t + dl) = t + dl := IntWalk.i64_in _ (by omega)
  have hlo : -9223372036854775808 ≤ t + dl := by omega
  have hhi : t + dl ≤ 9223372036854775807 := by omega
  obtain ⟨C, hC⟩ : ∃ C, C = c.plus (boxRow w.heap.size 79 [.string sx, .int .i64 dl, .int .i64 pr, .slice a1 n1 c1, .slice a2 n2 c2, .slice a3 n3 c3]) := ⟨_, rfl⟩
  have h1 := h.plusBox #[.string sx, .int .i64 dl, .int .i64 pr, .slice a1 n1 c1, .slice a2 n2 c2, .slice a3 n3 c3] 79
  obtain ⟨B1, hB1⟩ : ∃ q, q = w.heap.size := ⟨_, rfl⟩
  rw [← hB1] at h1 hC
  have HCb := Lib.hid (show C.b = c.b by rw [hC]; rfl)
  have H1 := Lib.hid h1
  have HB1 := Lib.hid hB1
  have HC := Lib.hid hc
  have HEy := Lib.hid hE
  have Haw := Lib.hid haw
  have HI := Lib.hid hI
  have HS := Lib.hid hS
  have HAr := Lib.hid hAr
  have Hoff := Lib.hid hoff
  have Hte := Lib.hid hte
  have Hdl := Lib.hid hdl
  have Hn1 := Lib.hid hn1
  have Hn3 := Lib.hid hn3
  have Hto := Lib.hid hto
  have Hml := Lib.hid hml
  have Hx := Lib.hid hx
  have Hmx := Lib.hid hmx
  have HF := Lib.hid (And.intro hn' (And.intro hAf (And.intro hP (And.intro hx' (And.intro hinn (And.intro hnt' (And.intro hout (And.intro hdel (And.intro hmay hl)))))))))
  clear hc hE haw h hn' hI hAf hP hx hx' hinn hnt' hout hdel hmay hl hS hto hmx hd htb hll0 hAr hoff evt hte hdl hpr hsx hn1 hn2 hn3 hml hC HCb C h1 hB1 hnt
  go_enter Try.func64, Try.ntmps64
  go_upto_region 2 with (fail)
  rw [← HB1.out]
  clear HB1 k1 z0 z1 z2 z3 z4 z5 hgw kb hlt hlti
  revert H1
  generalize (w.alloc (.cells #[.string sx, .int .i64 dl, .int .i64 pr, .slice a1 n1 c1, .slice a2 n2 c2, .slice a3 n3 c3] 79)) = W
  intro H1
  go_cut [] from 19 to 33 (fun wc => EgAt w0 wc (c.plus (boxRow B1 79 [.string sx, .int .i64 dl, .int .i64 pr, .slice a1 n1 c1, .slice a2 n2 c2, .slice a3 n3 c3])) {e with log := e.log ++ [(t, (i : Int))]})
  case first =>
    have h1 := H1.out
    have h2 := h1.go (Below.refl _ _).drew
    obtain ⟨al, cl, k8, _⟩ := h1.logs
    have k11 := h1.cells.2.2.2.2.2.2.2.1
    have kb := h1.cells.2.2.2.2.2.2.2.2.1
    simp only [EC.plus] at k8 k11 kb
    rw [← Hte.out] at k11
    obtain ⟨a9, n9, c9, w6, hr, h6, q1, q2, q3⟩ := h2.pushF (by rw [HS.out.log]; have := HI.out.ll; omega) 49 t (i : Int) (a := al) (cap := cl) k8
    have H6 := Lib.hid h6
    simp only [EC.plus] at q1 q2 q3
    obtain ⟨ll, hll⟩ : ∃ k, k = e.log.length := ⟨_, rfl⟩
    rw [← hll] at k8 hr q1
    clear h1 h2 h6 hll H1
    go_region_law (first | (refine step_append_eq (by rfl) (.tmp 23) (.tmp 30) 49 (by rfl) (by rfl) (by rfl) hr ?_))
    all_goals
      go_wp2
      go_meet
      case rel => exact H6.out
  case rest =>
    rename World => W2
    have h6 := hcut
    clear hcut H1
    go_upto_region 3 with (fail)
    go_cut [] from 34 to 39 (fun wc => EgAt w0 wc (c.plus (boxRow B1 79 [.string sx, .int .i64 dl, .int .i64 pr, .slice a1 n1 c1, .slice a2 n2 c2, .slice a3 n3 c3])) {e with log := e.log ++ [(t, (i : Int))], m := takeL x.inn e.m})
    case first =>
      have hT := h6.beside
      have f0 := boxRow.cell hT (j := 0) rfl
      have f1 := boxRow.cell hT (j := 1) rfl
      have f2 := boxRow.cell hT (j := 2) rfl
      have f3 := boxRow.cell hT (j := 3) rfl
      have f4 := boxRow.cell hT (j := 4) rfl
      have f5 := boxRow.cell hT (j := 5) rfl
      have fl := (boxRow.lt hT).2
      have k9 := h6.cells.2.2.2.2.2.1
      have kb := h6.cells.2.2.2.2.2.2.2.2.1
      simp only [EC.plus, EC.vm] at k9 kb
      have h7 := h6.go (Below.refl _ _).drew
      have hem : e.m.length = c.n.places.length := by rw [HS.out.m]; exact Hml.out
      have HT := Lib.hid (take_any (s := sx) (d := dl) (p := pr) (a2 := a2) (n2 := n2) (c2 := c2) (a3 := a3) (n3 := n3) (c3 := c3) (m := e.m) Hn1.out (by rw [hem]; exact HC.out.nm) (HAr.out _ _ h7.minus).1 (fun _ => Hoff.out) h7.ints (by rw [hem]; exact fun a ha => (HC.out.nok.inn x Hmx.out a ha).1))
      have H7 := Lib.hid h7
      clear h6 hT h7 hem
      go_region_law (first | (go_simp; go_at_call 87; refine HT.out.mono ?_; rintro e w7 ⟨rfl, ho, hk⟩; have H8 := Lib.hid (H7.out.turnM ho hk); clear ho hk))
      all_goals
        clear f0 f1 f2 f3 f4 f5 fl k9 kb HT H7
        go_wp2
        go_meet
        case rel => exact H8.out
    case rest =>
      rename World => W3
      have h9 := hcut
      clear hcut h6
      have hT := h9.beside
      have f3 := boxRow.cell hT (j := 3) rfl
      have fl := (boxRow.lt hT).2
      have H9 := Lib.hid h9
      clear h9 hT
      go_wp2
      clear f3 fl
      go_loopw [43] (fun i1 wr => ∃ (k : Nat) (R : List Key4), k ≤ n1 ∧ i1 = .int .i64 k ∧ RQ c.n.trans R (wakeA c (x.inn.take k) e.qd) ∧ EgAt w0 wr (c.plus (boxRow B1 79 [.string sx, .int .i64 dl, .int .i64 pr, .slice a1 n1 c1, .slice a2 n2 c2, .slice a3 n3 c3])) {e with log := e.log ++ [(t, (i : Int))], m := takeL x.inn e.m, rdy := R, qd := wakeA c (x.inn.take k) e.qd}) (fun i1 _ => n1 - (intOf i1).toNat)
      case atStart => exact ⟨0, e.rdy, by omega, rfl, HS.out.rq, H9.out⟩
      case round =>
        rename World => v1
        obtain ⟨k, R, hk, rfl, hr, he⟩ := hrel
        by_cases hlt2 : k < n1
        · obtain ⟨⟨y1, y2⟩, hy⟩ := at_lt (l := x.inn) (k := k) (by rw [← Hn1.out]; exact hlt2)
          have hlti2 : (k : Int) < (n1 : Int) := by omega
          have hy0 := (HC.out.nok.inn x Hmx.out _ (List.mem_of_getElem? hy)).1
          simp only at hy0
          obtain ⟨p, rfl⟩ : ∃ p : Nat, y1 = p := ⟨y1.toNat, by omega⟩
          obtain ⟨⟨v, es⟩, hes⟩ := at_lt (l := c.es) (k := p) (by rw [HEy.out.len]; omega)
          have hw := wakeA_take (c := c) (qd := e.qd) hy
          rw [esOf_at hes] at hw
          have hW0 := fun W (hb : Below v1.heap.size v1 W) => wake_any (HC.out.plus (boxRow B1 79 [.string sx, .int .i64 dl, .int .i64 pr, .slice a1 n1 c1, .slice a2 n2 c2, .slice a3 n3 c3])) (he.go hb) (p := p) hes (fun j hj => ((HEy.out.all p v es hes).1 j hj).1) hr
          have HW := Lib.hid hW0
          obtain ⟨g1, o1, rfl, hg1, e0, e1⟩ := ArcsAt.at_ (HAr.out _ _ he.minus).1 hy
          have Hw := Lib.hid hw
          clear hr he hy hy0 hes hw hW0
          go_wp2_with fail
          refine (HW.out _ ((Below.refl _ _).alloc (Nat.le_refl _) _)).mono ?_
          rintro r w4 ⟨rfl, R', h4, h5⟩
          have H4 := Lib.hid h4
          have H5 := Lib.hid h5
          clear h4 h5 e0 e1 hg1 HW
          go_wp2
          go_roundw
          case rel => exact ⟨k + 1, R', by omega, by go_num, by rw [Hw.out]; exact H4.out, by rw [Hw.out]; exact H5.out⟩
          case measure => simp [intOf]; omega
        · have hge2 : ¬ (k : Int) < (n1 : Int) := by omega
          rw [List.take_of_length_le (by rw [← Hn1.out]; omega)] at hr he
          have hT := he.beside
          have f5 := boxRow.cell hT (j := 5) rfl
          have fl := (boxRow.lt hT).2
          have Hr := Lib.hid hr
          have He := Lib.hid he
          clear hr he hT H9
          go_wp2
          clear f5 fl
          have hst : EgSt c mine {e with log := e.log ++ [(t, (i : Int))], m := takeL x.inn e.m, rdy := R, qd := wakeA c x.inn e.qd} (stK t dl (s.log ++ [(t, (i : Int))]) (takeL x'.inn s.m) s.q (homeL c (x.out.take 0))) := by
            have e1 : stK t dl (s.log ++ [(t, (i : Int))]) (takeL x'.inn s.m) s.q (homeL c (x.out.take 0)) = ⟨s.log ++ [(t, (i : Int))], takeL x'.inn s.m, s.q⟩ := by
              unfold stK; split <;> simp [homeL, outs]
            rw [e1]
            exact ⟨HS.out.heap, HS.out.perm, by show takeL x.inn e.m = takeL x'.inn s.m; rw [HS.out.m, HF.out.2.2.2.2.1], by show e.log ++ _ = _; rw [HS.out.log], HS.out.way, Hr.out, cov_take HC.out.nok HEy.out HS.out.cov HS.out.rq.len Hmx.out⟩
          have Hst := Lib.hid hst
          clear hst
          go_loopw [8, 55] (fun g8 i1 wr => ∃ (k : Nat) (e1 : Eg), k ≤ n3 ∧ g8 = .bool true ∧ i1 = .int .i64 k ∧ EgAt w0 wr (c.plus (boxRow B1 79 [.string sx, .int .i64 dl, .int .i64 pr, .slice a1 n1 c1, .slice a2 n2 c2, .slice a3 n3 c3])) e1 ∧ EgSt c mine e1 (stK t dl (s.log ++ [(t, (i : Int))]) (takeL x'.inn s.m) s.q (homeL c (x.out.take k))) ∧ e1.t = t ∧ e1.told = e.told ++ outs t dl (awayL c (x.out.take k))) (fun _ i1 _ => n3 - (intOf i1).toNat)
          case atStart => exact ⟨0, _, by omega, rfl, rfl, He.out, Hst.out, Hte.out.symm, by simp [awayL, outs]⟩
          case round =>
            rename World => v2
            obtain ⟨k3, e1, hk3, rfl, rfl, h10, hs10, ht10, hto10⟩ := hrel
            by_cases hlt3 : k3 < n3
            · obtain ⟨⟨y1, y2⟩, hy⟩ := at_lt (l := x.out) (k := k3) (by rw [← Hn3.out]; exact hlt3)
              have hlti3 : (k3 : Int) < (n3 : Int) := by omega
              have hy0 := (HC.out.nok.out x Hmx.out _ (List.mem_of_getElem? hy)).1
              have hpb := h10.plusBox #[.int .i64 y1, .int .i64 y2] 76
              obtain ⟨kb2, hkb2⟩ : ∃ q, q = v2.heap.size := ⟨_, rfl⟩
              rw [← hkb2] at hpb
              have hI1 : Inv n' e1.t s := by rw [ht10, Hte.out]; exact HI.out
              have hsk : EgSt c mine e1 (stK e1.t x.delay (s.log ++ [(t, (i : Int))]) (takeL x'.inn s.m) s.q (homeL c (x.out.take k3))) := by rw [ht10, ← Hdl.out]; exact hs10
              have htl : e1.told.length ≤ 1000000 := by
                have h1 : (outs t dl (awayL c (x.out.take k3))).length ≤ 8 := by
                  have h2 : (awayL c (x.out.take k3)).length ≤ (x.out.take k3).length := List.length_filter_le _ _
                  have h3 : (x.out.take k3).length ≤ k3 := by simp; omega
                  unfold outs; rw [List.length_map]; omega
                have := Hto.out
                rw [hto10, List.length_append]; omega
              have hg0 := fun W (hW : EgAt w0 W ((c.plus (boxRow B1 79 [.string sx, .int .i64 dl, .int .i64 pr, .slice a1 n1 c1, .slice a2 n2 c2, .slice a3 n3 c3])).plus (boxRow kb2 76 [.int .i64 y1, .int .i64 y2])) e1) => egive_any (mine := mine) (x := x) (x' := x') (n' := n') (s := s) (k := k3) (lg := s.log ++ [(t, (i : Int))]) ((HC.out.plus _).plus _) ((HEy.out.plus _).plus _) Haw.out hW HF.out.1 hI1 HF.out.2.2.1 (List.mem_of_getElem? HF.out.2.2.2.1) HF.out.2.2.2.2.2.2.2.2.1 HF.out.2.2.2.2.2.2.1 HF.out.2.2.2.2.2.2.2.1 hy hy0 ((hsk.plus _).plus _) htl
              rw [ht10, ← Hdl.out] at hg0
              have HG := Lib.hid hg0
              have H10 := Lib.hid hpb
              have Hto10 := Lib.hid hto10
              have Hto2 : Hid (outs t dl (awayL c (x.out.take (k3 + 1))) = outs t dl (awayL c (x.out.take k3)) ++ outs t dl (awayL c [(y1, y2)])) := Lib.hid (by
                rw [take_at hy]; unfold awayL outs; rw [List.filter_append, List.map_append])
              have Ht10 := Lib.hid ht10
              obtain ⟨g3, o3, rfl, hg3, e30, e31⟩ := ArcsAt.at_ (HAr.out _ _ h10.minus).2 hy
              clear h10 hs10 ht10 hto10 hy hy0 hpb hI1 hsk htl hg0 Hst He Hr
              go_upto_region 13 with (fail)
              rw [← hkb2]
              clear hkb2 e30 e31 hg3
              revert H10
              generalize (v2.alloc (.cells #[.int .i64 y1, .int .i64 y2] 76)) = V
              intro H10
              go_cut [73] from 59 to 73 (fun s73 wc => s73 = .bool false ∧ ∃ e2, EgAt w0 wc ((c.plus (boxRow B1 79 [.string sx, .int .i64 dl, .int .i64 pr, .slice a1 n1 c1, .slice a2 n2 c2, .slice (some ⟨g3, o3, none⟩) n3 c3])).plus (boxRow kb2 76 [.int .i64 y1, .int .i64 y2])) e2 ∧ EgSt c mine e2 (stK t dl (s.log ++ [(t, (i : Int))]) (takeL x'.inn s.m) s.q (homeL c (x.out.take (k3 + 1)))) ∧ e2.t = t ∧ e2.told = e1.told ++ outs t dl (awayL c [(y1, y2)]))
              case first =>
                have h11 := H10.out
                have hdr := h11.go (Below.refl _ _).drew
                have k11 := h11.cells.2.2.2.2.2.2.2.1
                have kb := h11.cells.2.2.2.2.2.2.2.2.1
                rw [Ht10.out] at k11
                simp only [EC.plus] at k11 kb
                have hb2 := h11.beside
                have x0 := boxRow.cell hb2 (j := 0) rfl
                have x1 := boxRow.cell hb2 (j := 1) rfl
                have xl := (boxRow.lt hb2).2
                have hb1 := h11.minus.beside
                have f1 := boxRow.cell hb1 (j := 1) rfl
                have fl := (boxRow.lt hb1).2
                have HD := Lib.hid (HG.out _ hdr)
                have hwr2 := hwr
                rw [← hwr] at HD
                have HW := Lib.hid hwr
                clear h11 hdr hb2 hb1 HG H10 hwr hwr2
                go_region_law (first | (go_simp; go_at_call 89; refine HD.out.mono ?_; rintro r w7 ⟨rfl, e2, h20, h21, h22, h23⟩; have H20 := Lib.hid (And.intro h20 (And.intro h21 (And.intro h22 h23))); clear h20 h21 h22 h23))
                all_goals
                  clear x0 x1 xl f1 fl k11 kb HD
                  go_wp2
                  go_meet
                  case rel => exact ⟨rfl, e2, H20.out.1, H20.out.2.1.minus.minus, H20.out.2.2.1, H20.out.2.2.2⟩
              case rest =>
                obtain ⟨rfl, e2, h20, h21, h22, h23⟩ := hcut
                rename World => V2
                have H20 := Lib.hid h20
                have H21 := Lib.hid h21
                have H22 := Lib.hid h22
                have H23 := Lib.hid h23
                clear h20 h21 h22 h23 HG H10
                go_wp2
                go_roundw
                case rel => exact ⟨k3 + 1, e2, by omega, rfl, by go_num, H20.out.minus, H21.out, H22.out, by rw [H23.out, Hto10.out, Hto2.out, List.append_assoc]⟩
                case measure => simp [intOf]; omega
            · have hge3 : ¬ (k3 : Int) < (n3 : Int) := by omega
              rw [List.take_of_length_le (by rw [← Hn3.out]; omega)] at hs10 hto10
              have hfin : EgSt c mine e1 (fire e.t i x' s) := by
                have e2 : fire e.t i x' s = stK t dl (s.log ++ [(t, (i : Int))]) (takeL x'.inn s.m) s.q (homeL c x.out) := by
                  have hd0 := HC.out.nok.dly x Hmx.out
                  unfold stK
                  split
                  · rename_i h0
                    rw [fire_now HF.out.2.1 (by rw [HF.out.2.2.2.2.2.2.2.1, ← Hdl.out]; exact h0), HF.out.2.2.2.2.2.2.1, Hte.out]
                  · rename_i h0
                    rw [fire_later HF.out.2.1 (by rw [HF.out.2.2.2.2.2.2.2.1]; have := Hdl.out; omega), HF.out.2.2.2.2.2.2.1, HF.out.2.2.2.2.2.2.2.1, Hte.out, Hdl.out]
                rw [e2]; exact hs10
              have Hfin := Lib.hid hfin
              have H10 := Lib.hid h10
              have Ht10 := Lib.hid ht10
              have Hto10 := Lib.hid hto10
              clear h10 hs10 ht10 hto10 hfin Hst He Hr
              go_wp2
              go_ret
              refine ⟨rfl, e1, H10.out.minus, Hfin.out, by rw [Ht10.out, Hte.out], by rw [Hto10.out, Hdl.out, Hte.out]⟩
end Go.Proofs.Ytpbbdnicafifpaa
