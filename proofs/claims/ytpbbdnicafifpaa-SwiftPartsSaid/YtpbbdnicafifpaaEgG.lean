/-
  What arrive of the engine comes to: all that is due is added.
  Conditions: none beyond each theorem's own.
-/
import Derived.Test.YtpbbdnicafifpaaEgF
import Derived.Test.YtpbbdnicafifpaaEgM
namespace Go.Proofs.Ytpbbdnicafifpaa
open Go.RowKit
set_option linter.unusedVariables false

theorem looks_pos {n : Nt} (hn : NOk n) {i : Nat} {x : Tr} {q : Int} (hx : n.trans[i]? = some x) (hl : looks x q) : 0 ≤ q := by
  have hm := hn.at_ hx
  rcases hl with ⟨a, ha, rfl⟩ | ⟨a, ha, rfl⟩
  · exact (hn.inn x hm a ha).1.1
  · exact (hn.nt x hm a ha).1.1
theorem cov_put {c : EC} {mine : Nat → Bool} {m : List Int} {qd : List Bool} {p : Nat} {v : Value} {es : List Int} {y : Int} (hn : NOk c.n) (hE : EyesOk c mine) (hp : c.es[p]? = some (v, es)) (hC : Cov c.n.trans mine m qd) (hl : qd.length = c.n.trans.length) : Cov c.n.trans mine (m.set p y) (wakeQ es qd) := by
  obtain ⟨h1, h2⟩ := hE.all p v es hp
  have hb : ∀ j ∈ es, j.toNat < qd.length := fun j hj => by have := (h1 j hj).1; omega
  refine hC.turn (fun q => q.toNat = p ∧ 0 ≤ q ∨ q.toNat = p) (fun q hq => ?_) (fun i h => wakeQ_old es qd i hb h) (fun i x q hx hm hq hl => ?_) (fun i h => ?_)
  · unfold getI
    rw [List.getD_eq_getElem?_getD, List.getD_eq_getElem?_getD, List.getElem?_set_ne (fun e => hq (.inr e.symm))]
  · have hqp : q.toNat = p := by rcases hq with h | h <;> first | exact h.1 | exact h
    have h0 := looks_pos hn hx hl
    have e : q = (p : Int) := by omega
    rw [e] at hl
    exact wakeQ_new es qd i hb (h2 i x hx hm hl)
  · rcases wakeQ_own es qd i hb h with h3 | ⟨j, hj, e⟩
    · exact hC.own i h3
    · have := (h1 j hj).2; rw [e] at this; exact this

set_option maxRecDepth 100000 in
set_option maxHeartbeats 4000000 in
theorem earrive_any {w0 w : World} {c : EC} {e : Eg} {s : St} {mine : Nat → Bool} {N' : Nt} {t0 : Int} (hc : EOk c) (hE : EyesOk c mine) (h : EgAt w0 w c e) (hS : EgSt c mine e s) (hI : Inv N' t0 s) (hP : N'.places.length = c.n.places.length) :
    Calls Try.prog 61 #[.pointer (some ⟨c.b, 0, none⟩)] w fun r w' => r = .returned (.bool true) ∧ ∃ e', EgAt w0 w' c e' ∧ EgSt c mine e' (arrive e.t s) ∧ e'.t = e.t ∧ e'.told = e.told := by
  have HC := Lib.hid hc
  have HEy := Lib.hid hE
  have HA := Lib.hid h
  have HS := Lib.hid hS
  have HI := Lib.hid hI
  have HP := Lib.hid hP
  have hml : e.m.length = c.n.places.length := by rw [hS.m, hI.len, hP]
  have Hml := Lib.hid hml
  have hql : s.q.length ≤ 100000 := by have := hI.ql; have := hI.ll; omega
  clear hc hE h hS hI hP hml
  go_enter Try.func61, Try.ntmps61
  go_wp2
  go_loopg [2, 3] (s.q.length + 1) (fun k _ g wr => ∃ (e1 : Eg) (dn qr : List Ev), g = .bool true ∧ EgAt w0 wr c e1 ∧ Half e.t s dn qr ∧ IsHeap e1.due ∧ e1.due.Perm (qr.map evK) ∧ e1.m = dn.foldl addE s.m ∧ e1.log = s.log ∧ e1.way = wayL c.n.places.length qr ∧ RQ c.n.trans e1.rdy e1.qd ∧ Cov c.n.trans mine e1.m e1.qd ∧ e1.t = e.t ∧ e1.told = e.told ∧ qr.length + 1 ≤ k)
  case atStart => exact ⟨e, [], s.q, rfl, HA.out, Half.start _ _, HS.out.heap, HS.out.perm, HS.out.m, HS.out.log, HS.out.way, HS.out.rq, HS.out.cov, rfl, rfl, by omega⟩
  case round =>
    rename World => v1
    obtain ⟨e1, dn, qr, rfl, he, hf, hh, hp, hm, hlg, hwy, hrq, hcv, ht, hto, hk⟩ := hrel
    have hbl := he.cells.2.2.2.2.2.2.2.2.1
    have hfin : (∀ x ∈ qr, e.t < x.time) → EgSt c mine e1 (arrive e.t s) := fun hq => by
      obtain ⟨f1, f2⟩ := hf.done hq
      exact ⟨hh, hp.trans (f2.map evK).symm, by rw [hm]; exact f1.symm, hlg, by rw [hwy]; exact (wayL_perm _ f2).symm, hrq, hcv⟩
    have Hfin := Lib.hid hfin
    by_cases h0 : e1.due = []
    · have hqr : qr = [] := by
        have := hp.length_eq
        rw [h0, List.length_map] at this
        exact List.eq_nil_of_length_eq_zero this.symm
      have HT := Lib.hid (due_top0 he hh h0)
      have HE1 := Lib.hid he
      have HR := Lib.hid (And.intro (hfin (fun x hx => by rw [hqr] at hx; cases hx)) (And.intro ht hto))
      clear he hf hh hp hm hlg hwy hrq hcv ht hto hfin h0 hqr Hfin
      go_wp2_with fail
      refine HT.out.mono ?_
      rintro r w2 ⟨rfl, hb2⟩
      have H2 := Lib.hid ((HE1.out.go hb2).go ((Below.refl _ w2).alloc (Nat.le_refl _) (.cells #[.int .i64 0, .int .i64 0, .int .i64 0, .int .i64 0] 112)))
      clear hb2 HT hbl
      go_wp2
      go_quiet (fail)
      go_wp2
      go_ret
      exact ⟨rfl, e1, H2.out.go (drewNb _ _), HR.out.1, HR.out.2.1, HR.out.2.2⟩
    · have hpos : 0 < e1.due.length := List.length_pos_iff.2 h0
      obtain ⟨x, qr', htop, hqp, hle⟩ := top_first hh hp hpos
      have HT0 := due_top he hh hpos
      rw [htop] at HT0
      obtain ⟨p, hx0, hpl, hn1, ⟨z, hz, hz0, hzn, hmset⟩, y, hy, hy0, hy1, hn2, hwset⟩ := hf.next HI.out hqp
      rw [HP.out] at hpl hy hwset
      have htm := hf.step hqp
      obtain ⟨xt, xp, xn⟩ := x
      simp only at hx0 hn1 hzn hmset hn2 hwset htm
      subst hx0
      have HT : Hid (Calls Try.prog 67 #[.pointer (some ⟨c.b, 4, none⟩)] v1 fun r w' => r = .returned (.tuple #[.agg #[.int .i64 xt, .int .i64 0, .int .i64 (p : Int), .int .i64 xn], .bool true]) ∧ Below v1.heap.size v1 w') := Lib.hid HT0
      have HE1 := Lib.hid he
      have Ht := Lib.hid ht
      have Hto := Lib.hid hto
      have Hle := Lib.hid hle
      have Hst := Lib.hid (And.intro hp (And.intro hqp (And.intro htop hh)))
      have Hset := Lib.hid (And.intro hmset (And.intro hwset (And.intro hlg (And.intro hwy hm))))
      have Hzz := Lib.hid (And.intro hz hy)
      have Hrq := Lib.hid hrq
      have Hcv := Lib.hid hcv
      have Htm := Lib.hid htm
      have Hpos := Lib.hid hpos
      have hlq := hqp.length_eq
      have Hk : Hid (qr'.length + 1 + 1 ≤ gk) := Lib.hid (by simp at hlq; omega)
      have hdl : e1.due.length ≤ 100000 := by
        have h1 := hp.length_eq
        have h2 := hf.perm.length_eq
        rw [List.length_map] at h1
        rw [List.length_append] at h2
        omega
      clear he hf hh hp hm hlg hwy hrq hcv ht hto hfin h0 hle htop hqp hmset hwset hz hy htm hpos hlq HT0 hk
      obtain ⟨et, het⟩ : ∃ q, q = e.t := ⟨_, rfl⟩
      by_cases hd : xt ≤ et
      · have hdb : decide (et < xt) = false := decide_eq_false (by omega)
        have Hd : Hid (xt ≤ e.t) := Lib.hid (by rw [← het]; exact hd)
        have Het := Lib.hid het
        clear het hd
        go_wp2_with fail
        refine HT.out.mono ?_
        rintro r w2 ⟨rfl, hb2⟩
        have h3p := (HE1.out.go hb2).plusBox #[.int .i64 xt, .int .i64 0, .int .i64 (p : Int), .int .i64 xn] 112
        obtain ⟨kb, hkb⟩ : ∃ q, q = w2.heap.size := ⟨_, rfl⟩
        rw [← hkb] at h3p
        have H3 := Lib.hid h3p
        clear hb2 HT hbl h3p HE1
        go_upto_region 3 with (fail)
        rw [← hkb]
        clear hkb
        revert H3
        generalize (w2.alloc (.cells #[.int .i64 xt, .int .i64 0, .int .i64 (p : Int), .int .i64 xn] 112)) = V
        intro H3
        go_cut [23] from 13 to 23 (fun s wc => s = .bool false ∧ Below V.heap.size V wc)
        case first =>
          have h3 := H3.out
          have k11 := h3.cells.2.2.2.2.2.2.2.1
          have hbl := h3.cells.2.2.2.2.2.2.2.2.1
          rw [Ht.out, ← Het.out] at k11
          simp only [EC.plus] at k11 hbl
          have hbx := h3.beside
          have x0 := boxRow.cell hbx (j := 0) rfl
          have xl := (boxRow.lt hbx).2
          clear h3 hbx H3
          go_wp2
          go_quiet (fail)
          go_wp2
          go_meet
          case rel => exact ⟨rfl, drewNb _ _⟩
        case rest =>
          obtain ⟨rfl, hb⟩ := hcut
          rename World => V1
          have H4 := Lib.hid (H3.out.go hb)
          clear hb H3 hdb
          have HPop0 := due_pop H4.out Hst.out.2.2.2 Hpos.out hdl
          rw [Hst.out.2.2.1] at HPop0
          have HPop : Hid (Calls Try.prog 84 #[.pointer (some ⟨c.b, 4, none⟩)] V1 fun r w' => r = .returned (.tuple #[kv (evK ⟨xt, (p : Int), xn⟩), .bool true]) ∧ ∃ D', (evK ⟨xt, (p : Int), xn⟩ :: D').Perm e1.due ∧ IsHeap D' ∧ EgAt w0 w' (c.plus (boxRow kb 112 [.int .i64 xt, .int .i64 0, .int .i64 (p : Int), .int .i64 xn])) {e1 with due := D'}) := Lib.hid HPop0
          have hbl := H4.out.cells.2.2.2.2.2.2.2.2.1
          simp only [EC.plus] at hbl
          clear HPop0
          go_wp2_with fail
          refine HPop.out.mono ?_
          rintro r w5 ⟨rfl, D, hD1, hD2, h5⟩
          clear hbl HPop H4
          have hbl := h5.cells.2.2.2.2.2.2.2.2.1
          have k10 := h5.cells.2.2.2.2.2.2.1
          simp only [EC.plus, EC.vw] at hbl k10
          have hbx := h5.beside
          have x2 := boxRow.cell hbx (j := 2) rfl
          have x3 := boxRow.cell hbx (j := 3) rfl
          have xl := (boxRow.lt hbx).2
          have hW : OwnI w0.heap.size w5 (.slice (some ⟨c.bw, 0, none⟩) c.nw c.nw) (wayL c.n.places.length qr) := by have := h5.minus.ways; rw [show ({e1 with due := D} : Eg).way = wayL c.n.places.length qr from Hset.out.2.2.2.1] at this; exact this
          have c0 := hW.cell Hzz.out.2
          have f0 := hW.froz p
          have l0 := hW.lt.2
          have hst := hW.set p (y - xn) (lt_at Hzz.out.2)
          rw [← Hset.out.2.1] at hst
          have h7 := (h5.turnW (m' := wayL c.n.places.length qr') hst.1 hst.2).go (Below.refl _ _).drew
          have H7 := Lib.hid h7
          have HD := Lib.hid (And.intro hD1 hD2)
          have hpw : p < c.nw := by rw [HC.out.nw]; exact hpl
          have hpwi : (p : Int) < (c.nw : Int) := by omega
          have hwr : IntKind.i64.wrap (y - xn) = y - xn := IntWalk.i64_in _ (by omega)
          have hb1 : -9223372036854775808 ≤ y - xn := by omega
          have hb2 : y - xn ≤ 9223372036854775807 := by omega
          clear hD1 hD2 h5 hbx hW hst h7
          go_upto_region 6 with (fail)
          go_region
          clear hbl k10 x2 x3 xl c0 f0 l0
          revert H7
          generalize (w5.setCell ⟨c.bw, p, none⟩ (.int .i64 (y - xn))).drew = V2
          intro H7
          have h7 := H7.out
          have hbx := h7.beside
          have x2 := boxRow.cell hbx (j := 2) rfl
          have x3 := boxRow.cell hbx (j := 3) rfl
          have xl := (boxRow.lt hbx).2
          obtain ⟨⟨v, es⟩, hes⟩ := at_lt (l := c.es) (k := p) (by rw [HEy.out.len]; exact hpl)
          obtain ⟨q1, q2⟩ := HEy.out.all p v es hes
          have hm1 : e1.m = dn.foldl addE s.m := Hset.out.2.2.2.2
          have HPut := Lib.hid (eput_any (n := xn) (z := z) HC.out h7.minus hes (fun j hj => (q1 j hj).1) Hrq.out (by show e1.m.length = _; rw [hm1, foldE_len, HI.out.len, HP.out]) (by show e1.m[p]? = some z; rw [hm1]; exact Hzz.out.1) hz0 hn1 hzn)
          have Hes := Lib.hid hes
          clear h7 hbx q1 q2 hm1 H7 hes
          go_wp2_with fail
          refine HPut.out.mono ?_
          rintro r w8 ⟨rfl, R', hr8, h8⟩
          have H8 := Lib.hid h8
          have Hr8 := Lib.hid hr8
          clear hr8 h8 HPut x2 x3 xl
          obtain ⟨k, rfl⟩ : ∃ k, gk = k + 1 := ⟨gk - 1, by have := Hk.out; omega⟩
          go_wp2
          go_roundg k
          case measure => omega
          case rel =>
            refine ⟨_, dn ++ [⟨xt, (p : Int), xn⟩], qr', rfl, H8.out, Htm.out Hd.out, HD.out.2, perm_rest Hst.out.1 Hst.out.2.1 HD.out.1, ?_, Hset.out.2.2.1, rfl, Hr8.out, ?_, Ht.out, Hto.out, by have := Hk.out; omega⟩
            · show e1.m.set p (z + xn) = _
              rw [Hset.out.1, Hset.out.2.2.2.2]
            · exact cov_put HC.out.nok HEy.out Hes.out Hcv.out Hrq.out.len
      · have hdb : decide (et < xt) = true := decide_eq_true (by omega)
        have hall : ∀ y ∈ qr, e.t < y.time := fun y hy => by have := Hle.out y hy; simp only at this; rw [← het]; omega
        have HR := Hfin.out hall
        have HR2 := Lib.hid HR
        have Het := Lib.hid het
        clear het hd hall HR Hfin
        go_wp2_with fail
        refine HT.out.mono ?_
        rintro r w2 ⟨rfl, hb2⟩
        have h3p := (HE1.out.go hb2).plusBox #[.int .i64 xt, .int .i64 0, .int .i64 (p : Int), .int .i64 xn] 112
        obtain ⟨kb, hkb⟩ : ∃ q, q = w2.heap.size := ⟨_, rfl⟩
        rw [← hkb] at h3p
        have H3 := Lib.hid h3p
        clear hb2 HT hbl h3p HE1
        go_upto_region 3 with (fail)
        rw [← hkb]
        clear hkb
        revert H3
        generalize (w2.alloc (.cells #[.int .i64 xt, .int .i64 0, .int .i64 (p : Int), .int .i64 xn] 112)) = V
        intro H3
        have h3 := H3.out
        have k11 := h3.cells.2.2.2.2.2.2.2.1
        have hbl := h3.cells.2.2.2.2.2.2.2.2.1
        rw [Ht.out, ← Het.out] at k11
        simp only [EC.plus] at k11 hbl
        have hbx := h3.beside
        have x0 := boxRow.cell hbx (j := 0) rfl
        have xl := (boxRow.lt hbx).2
        clear h3 hbx
        go_wp2
        go_quiet (fail)
        go_wp2
        go_ret
        exact ⟨rfl, e1, H3.out.minus.go (drewNb _ _), HR2.out, Ht.out, Hto.out⟩
end Go.Proofs.Ytpbbdnicafifpaa
