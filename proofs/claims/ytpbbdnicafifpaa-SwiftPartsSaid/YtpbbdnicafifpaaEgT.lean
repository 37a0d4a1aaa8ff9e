/-
  What swift.Run comes to: the run of a net that may be.
  Conditions: none beyond each theorem's own.
-/
import Derived.Test.YtpbbdnicafifpaaEgS
import Derived.Test.YtpbbdnicafifpaaEgP
import Derived.Test.YtpbbdnicafifpaaEgO
namespace Go.Proofs.Ytpbbdnicafifpaa
open Go.RowKit
set_option linter.unusedVariables false

theorem eg_next {c : EC} {mine : Nat → Bool} {e : Eg} {u : St} (hS : EgSt c mine e u) (ht : ∀ x ∈ u.q, 0 ≤ x.time) : (if e.due = [] then -1 else (at4 e.due 0).1) = nextT u.q := by
  by_cases h0 : e.due = []
  · rw [if_pos h0]
    have hq : u.q = [] := by
      have := hS.perm.length_eq
      rw [h0, List.length_map] at this
      exact List.eq_nil_of_length_eq_zero this.symm
    rw [hq]; rfl
  · rw [if_neg h0]
    obtain ⟨x, qr', e1, hp, hmin⟩ := top_first hS.heap hS.perm (List.length_pos_iff.2 h0)
    rw [e1, evK_time]
    have hx : x ∈ u.q := hp.symm.subset (by simp)
    rcases nextT_cases u.q ht with ⟨_, h1⟩ | ⟨⟨y, hy, h1⟩, h2⟩
    · rw [h1] at hx; cases hx
    · have := hmin y hy
      have := h2 x hx
      omega
theorem enextS_any {w0 w : World} {c : EC} {mine : Nat → Bool} {e : Eg} {u : St} (h : EgAt w0 w c e) (hS : EgSt c mine e u) (ht : ∀ x ∈ u.q, 0 ≤ x.time) :
    Calls Try.prog 36 #[.pointer (some ⟨c.b, 0, none⟩)] w fun r w' => r = .returned (.int .i64 (nextT u.q)) ∧ Below w.heap.size w w' :=
  enext_any h hS.heap _ (eg_next hS ht).symm

/-- no place is another engine's -/
theorem awB_none {c : EC} {P : Nat} (h : c.aw = awayOf P []) : awB c = fun _ => false := by
  funext q
  unfold awB
  rw [h]
  unfold awayOf
  simp [List.getD, List.getElem?_replicate]
  split <;> rfl
theorem told_none {c : EC} (h : awB c = fun _ => false) (lg : List (Int × Int)) : toldOf c lg = [] := by
  unfold toldOf
  rw [List.flatMap_eq_nil_iff]
  intro y _
  split
  · unfold awayL; rw [h]; simp [outs]
  · rfl
theorem mineOf_all {T : Nat} {i : Nat} (h : i < T) : mineOf T (List.replicate T true) i = true := by
  unfold mineOf; simp [List.getD, h]

theorem srun_ret (W : World) (R : Nat) (v0 v1 v2 v3 x : Value) (h0 : W.cell? ⟨R, 0, none⟩ = some v0) (h1 : W.cell? ⟨R, 1, none⟩ = some v1) (h2 : W.cell? ⟨R, 2, none⟩ = some v2) (h3 : W.cell? ⟨R, 3, none⟩ = some v3) (tmps : Array Value) (ht : tmps[4]?.getD undef = .pointer (some ⟨R, 0, none⟩)) (hx : tmps[5]?.getD undef = x) :
    (results Try.f29 tmps).run Try.prog W = .ok (.tuple #[.agg #[v0, v1, v2, v3], x]) W := by
  simp [results, Try.results29, go_sem, ht, hx, h0, h1, h2, h3]

/-- what Run answers -/
def SRes (w w' : World) (r : Ending) (n : Nt) (np : Nat) (h : Int) : Prop :=
  ∃ al nl cl am cm aw cw, r = .returned (.tuple #[resV (.slice al nl cl) (.slice am np cm) (.slice aw np cw) (runN n h).2.1, .int .i64 (runN n h).2.2]) ∧ nl = (runN n h).1.log.length ∧ ResAt w' (.slice al nl cl) (.slice am np cm) (.slice aw np cw) (runN n h).1 ∧ Below w.heap.size w w'

/-- the result, put into its box -/
theorem SRes.mk {w W W1 : World} {R np : Nat} {e : Eg} {A : St × Int × Int} {n : Nt} {h : Int} {r : Ending} (hA : A = runN n h) (hB : (boxRow R 51 [.slice none 0 0, .slice none 0 0, .slice none 0 0, .int .i64 0]).own w.heap.size W) (hb : Below w.heap.size w W) (hr : EgRes W W1 r e)
    (h1 : e.log = A.1.log) (h2 : e.m = A.1.m) (h3 : e.way = wayL A.1.m.length A.1.q) (h4 : e.t = A.2.1) (h5 : A.1.m.length = np) :
    ∃ (z0 : Option Addr) (y0 d0 : Nat) (z1 : Option Addr) (y1 d1 : Nat) (z2 : Option Addr) (y2 d2 : Nat) (W2 : World), r = .returned (.agg #[.slice z0 y0 d0, .slice z1 y1 d1, .slice z2 y2 d2, .int .i64 e.t]) ∧ (W1.cell? ⟨R, 0, none⟩ = some (.slice none 0 0) ∧ W1.cell? ⟨R, 1, none⟩ = some (.slice none 0 0) ∧ W1.cell? ⟨R, 2, none⟩ = some (.slice none 0 0) ∧ W1.cell? ⟨R, 3, none⟩ = some (.int .i64 0) ∧ W1.frozen? ⟨R, 0, none⟩ = false ∧ W1.frozen? ⟨R, 1, none⟩ = false ∧ W1.frozen? ⟨R, 2, none⟩ = false ∧ W1.frozen? ⟨R, 3, none⟩ = false ∧ R < W1.heap.size) ∧
      W2 = ((((W1.setCell ⟨R, 0, none⟩ (.slice z0 y0 d0)).setCell ⟨R, 1, none⟩ (.slice z1 y1 d1)).setCell ⟨R, 2, none⟩ (.slice z2 y2 d2)).setCell ⟨R, 3, none⟩ (.int .i64 e.t)) ∧ W2.cell? ⟨R, 0, none⟩ = some (.slice z0 y0 d0) ∧ W2.cell? ⟨R, 1, none⟩ = some (.slice z1 y1 d1) ∧ W2.cell? ⟨R, 2, none⟩ = some (.slice z2 y2 d2) ∧ W2.cell? ⟨R, 3, none⟩ = some (.int .i64 e.t) ∧
      SRes w W2 (.returned (.tuple #[.agg #[.slice z0 y0 d0, .slice z1 y1 d1, .slice z2 y2 d2, .int .i64 e.t], .int .i64 A.2.2])) n np h := by
  obtain ⟨al, cl, am, cm, aw, cw, rfl, f1, f2, f3, ⟨n1, n2, n3⟩, hb1⟩ := hr
  have hRl := (boxRow.lt hB).2
  have hRw := (boxRow.lt hB).1
  have hall : AllOwn w.heap.size W1 [boxRow R 51 [.slice none 0 0, .slice none 0 0, .slice none 0 0, .int .i64 0]] := (AllOwn.one hB).below hb1
  have hB1 := hall.own _ (List.mem_singleton.2 rfl)
  have hf := fill9 hall (.slice al e.log.length cl) (.slice am e.m.length cm) (.slice aw e.way.length cw) (.int .i64 e.t)
  have hB2 := hf.1.own (boxRow R 51 [.slice al e.log.length cl, .slice am e.m.length cm, .slice aw e.way.length cw, .int .i64 e.t]) (by simp)
  have g1 : FisAt _ (.slice al e.log.length cl) e.log := RowAt.store f1 n1 hRl hf.2
  have g2 : IntsAt _ (.slice am e.m.length cm) e.m := RowAt.store f2 n2 hRl hf.2
  have g3 : IntsAt _ (.slice aw e.way.length cw) e.way := RowAt.store f3 n3 hRl hf.2
  have hl2 : e.m.length = np := by rw [h2]; exact h5
  have hl3 : e.way.length = np := by rw [h3, wayL_len]; exact h5
  refine ⟨_, _, _, _, _, _, _, _, _, _, rfl, ⟨boxRow.cell hB1 rfl, boxRow.cell hB1 rfl, boxRow.cell hB1 rfl, boxRow.cell hB1 rfl, boxRow.froz hB1 0, boxRow.froz hB1 1, boxRow.froz hB1 2, boxRow.froz hB1 3, (boxRow.lt hB1).2⟩, rfl, boxRow.cell hB2 rfl, boxRow.cell hB2 rfl, boxRow.cell hB2 rfl, boxRow.cell hB2 rfl, ?_⟩
  subst hA
  refine ⟨al, e.log.length, cl, am, cm, aw, cw, ?_, by rw [h1], ⟨?_, ?_, ?_⟩, (hb.trans (hb1.mono hb.size)).trans (hf.2.below (fun k e => by omega) (by have := hb.size; have := hb1.size; omega))⟩
  · rw [hl2, hl3, h4]; rfl
  · rw [← h1]; exact g1
  · rw [← h2, ← hl2]; exact g2
  · rw [← h3, ← hl3]; exact g3

set_option maxRecDepth 100000 in
set_option maxHeartbeats 8000000 in
theorem srun_any {w : World} {n : Nt} {ap at_ : Option Addr} {cp ct np nt : Nat} {h : Int} (hnp : np = n.places.length) (hnt : nt = n.trans.length) (hnet : NetAt w (.slice ap np cp) (.slice at_ nt ct) n) (hs : ∀ s ∈ n.names, s.size ≤ 9223372036854775807) (hq : checkN n = 0) :
    Calls Try.prog 29 #[.agg #[.slice ap np cp, .slice at_ nt ct], .int .i64 h] w fun r w' => SRes w w' r n np h := by
  have hok := checkN_nok hq
  have hp32 : np ≤ 32 := by rw [hnp]; exact hok.pl
  have ht32 : nt ≤ 32 := by rw [hnt]; exact hok.tr
  have h0 := Two9.start w (.slice ap np cp) (.slice at_ nt ct)
  have hck : Calls Try.prog 52 #[.agg #[.slice ap np cp, .slice at_ nt ct]] ((w.alloc (.cells #[.slice ap np cp, .slice at_ nt ct] 31)).alloc (.cells #[nilS, nilS, nilS, .int .i64 0] 51)) fun e w' => e = .returned (.int .i64 0) ∧ Below ((w.alloc (.cells #[.slice ap np cp, .slice at_ nt ct] 31)).alloc (.cells #[nilS, nilS, nilS, .int .i64 0] 51)).heap.size ((w.alloc (.cells #[.slice ap np cp, .slice at_ nt ct] 31)).alloc (.cells #[nilS, nilS, nilS, .int .i64 0] 51)) w' := by
    have e1 := hnp
    have e2 := hnt
    subst e1 e2
    have := check_any (hnet.below h0.below) hs
    rw [hq] at this
    exact this
  obtain ⟨A, hA⟩ : ∃ A, A = runN n h := ⟨_, rfl⟩
  have HA : Hid (A = if 0 ≤ (0 : Int) ∧ 0 ≤ h then times n.trans h (h.toNat + 1) 0 (start n) else (start n, 0, 0)) := Lib.hid (by rw [hA, runN]; simp)
  have HAr := Lib.hid hA
  have Hck := Lib.hid hck
  have H0 := Lib.hid h0
  have Hnet := Lib.hid hnet
  have Hs := Lib.hid hs
  have Hq := Lib.hid hq
  have Hok := Lib.hid hok
  have Hnp := Lib.hid hnp
  have Hnt := Lib.hid hnt
  have HI := Lib.hid (start_inv hok)
  unfold nilS at H0 Hck
  clear hnp hnt hnet hs hq hok h0 hck hA
  go_enter Try.func29, Try.ntmps29
  go_wp2_with fail
  refine Hck.out.mono ?_
  rintro e W1 ⟨rfl, hb1⟩
  have h1 := H0.out.go hb1
  obtain ⟨x0, x1, xl⟩ := h1.net
  have H1 := Lib.hid h1
  clear hb1 Hck H0 h1
  go_upto_region 4 with (fail)
  have hal : Below W1.heap.size W1 (W1.drew.alloc (.cells #[.bool true] 4)) := (Below.refl _ _).drew.alloc (Nat.le_refl _) _
  have Hrep := Lib.hid (repeat_any (w := W1.drew.alloc (.cells #[.bool true] 4)) (b := W1.heap.size) (n := nt) (by omega) (by simp) (by go_simp))
  have Hnew : Hid (∀ (W : World) (g : Nat), Below (W1.drew.alloc (.cells #[.bool true] 4)).heap.size (W1.drew.alloc (.cells #[.bool true] 4)) W → W.ownsRow (W1.drew.alloc (.cells #[.bool true] 4)).heap.size 4 1 (.slice (some ⟨g, 0, none⟩) nt nt) nt (List.replicate nt (.bool true)) → Calls Try.prog 32 #[.agg #[.slice ap np cp, .slice at_ nt ct], .slice (some ⟨g, 0, none⟩) nt nt, .slice none 0 0] W fun r w' => ∃ c e, r = .returned (.pointer (some ⟨c.b, 0, none⟩)) ∧ EOk c ∧ c.n = n ∧ c.aw = awayOf np [] ∧ EyesOk c (mineOf nt (List.replicate nt true)) ∧ EgAt W w' c e ∧ EgSt c (mineOf nt (List.replicate nt true)) e (start n) ∧ e.told = [] ∧ e.t = 0) :=
    Lib.hid (fun W g hW ho => new_any Hnp.out Hnt.out (Hnet.out.below (H1.out.below.trans ((hal.trans (hW.mono hal.size)).mono H1.out.below.size))) Hs.out Hq.out (by simp) rfl (BoolsAt.of_own ho) (RowAt.nil _ _))
  have S0 := Lib.hid (fun (W : World) (hW : Below W1.heap.size W1 W) => And.intro ((below_cells hW w.heap.size 0 xl).trans x0) ((below_cells hW w.heap.size 1 xl).trans x1))
  have Hal := Lib.hid hal
  have kk := And.intro x0 x1
  clear hal
  go_cut [7] from 16 to 22 (fun s7 wc => ∃ c e, s7 = .pointer (some ⟨c.b, 0, none⟩) ∧ EOk c ∧ c.n = n ∧ c.aw = awayOf np [] ∧ EyesOk c (mineOf nt (List.replicate nt true)) ∧ (∃ W, EgAt W wc c e ∧ Below W1.heap.size W1 W) ∧ EgSt c (mineOf nt (List.replicate nt true)) e (start n) ∧ e.told = [] ∧ e.t = 0)
  case first =>
    go_region_held3 (fun w' => w'.cell? ⟨w.heap.size, 0, none⟩ = some (.slice ap np cp) ∧ w'.cell? ⟨w.heap.size, 1, none⟩ = some (.slice at_ nt ct)) (first | go_keep | exact kk) (first | (go_simp; go_at_call 53; refine Hrep.out.mono ?_; rintro r w4 ⟨g, rfl, ho, hb4⟩; have kk := S0.out _ (Hal.out.trans (hb4.mono Hal.out.size)); have Hnw := Lib.hid (Hnew.out w4 g hb4 ho); have Hb4 := Lib.hid (Hal.out.trans (hb4.mono Hal.out.size)); clear ho hb4) | (go_simp; go_at_call 32; refine Hnw.out.mono ?_; rintro r w5 ⟨c, e, rfl, q1, q2, q3, q4, q5, q6, q7, q8⟩; have kk := S0.out _ (Hb4.out.trans (q5.low.mono Hb4.out.size)); have HQ := Lib.hid (And.intro q1 (And.intro q2 (And.intro q3 (And.intro q4 (And.intro (show ∃ W, EgAt W w5 c e ∧ Below W1.heap.size W1 W from ⟨w4, q5, Hb4.out⟩) (And.intro q6 (And.intro q7 q8))))))); clear q1 q2 q3 q4 q5 q6 q7 q8))
    clear kk x0 x1 xl Hrep Hnew Hnw Hb4
    go_wp2
    go_meet
    case rel => exact ⟨c, e, rfl, HQ.out⟩
  case rest =>
    rename World => W5
    obtain ⟨c, e, rfl, hc, hcn, haw, hE, ⟨W4, hg, hW4⟩, hS, hto, ht0⟩ := hcut
    have hawb := awB_none haw
    have Hc := Lib.hid hc
    have HEy := Lib.hid hE
    have Hawb := Lib.hid hawb
    have Haw := Lib.hid (show c.aw.length = c.n.places.length by rw [haw, awayOf_len, hcn, Hnp.out])
    have HM : Hid (Masked c.n.trans n.trans (mineOf nt (List.replicate nt true)) (awB c)) := Lib.hid (by rw [hawb, hcn]; exact Masked.all _ _ (fun i hi => mineOf_all (by rw [Hnt.out]; exact hi)))
    have HR1 := H1.out.all.own (boxRow (w.heap.size + 1) 51 [nilS, nilS, nilS, .int .i64 0]) (by simp)
    have HR4 : Hid ((boxRow (w.heap.size + 1) 51 [.slice none 0 0, .slice none 0 0, .slice none 0 0, .int .i64 0]).own w.heap.size W4) := Lib.hid (ownS (S := fun _ => False) HR1 (Kept.of_below hW4) (fun _ _ e => e))
    have HW4 := Lib.hid (H1.out.below.trans (hW4.mono H1.out.below.size))
    have Hg := Lib.hid hg
    have HS := Lib.hid hS
    have Hto := Lib.hid hto
    have Ht0 := Lib.hid ht0
    have Hm0 : Hid ((start n).m.length = np ∧ (start n).log.length ≤ 2000) := Lib.hid ⟨by rw [Hnp.out]; simp [start], by simp [start]⟩
    clear hc haw hE hg hW4 hS hto ht0 hawb HR1 x0 x1 xl kk Hrep Hnew
    go_wp2
    go_loopg [8, 9] (h.toNat + 1) (fun k s8 s9 wr => ∃ (tt tc : Int) (u : St) (e1 : Eg), s8 = .int .i64 tt ∧ EgAt W4 wr c e1 ∧ EgSt c (mineOf nt (List.replicate nt true)) e1 u ∧ e1.t = tc ∧ e1.told = [] ∧ (u.m.length = np ∧ u.log.length ≤ 2000) ∧ (0 ≤ tt → Inv n tt u) ∧ (0 ≤ tt → tt ≤ h → (h - tt).toNat + 1 ≤ k) ∧ Hid (A = if 0 ≤ tt ∧ tt ≤ h then times n.trans h k tt u else (u, tc, 0)))
    case atStart => exact ⟨0, 0, start n, e, rfl, Hg.out, HS.out, Ht0.out, Hto.out, Hm0.out, fun _ => HI.out, fun _ _ => by omega, HA⟩
    case round =>
      rename World => v1
      obtain ⟨tt, tc, u, e1, rfl, hE1, hS1, ht1, hto1, hu, hI, hk, HK⟩ := hrel
      by_cases g1 : 0 ≤ tt
      · by_cases g2 : tt ≤ h
        · obtain ⟨k, rfl⟩ : ∃ k, gk = k + 1 := ⟨gk - 1, by have := hk g1 g2; omega⟩
          have hi := hI g1
          have hin := einstant_any (t := tt) Hc.out HEy.out Haw.out hE1 Hok.out hi (by rw [hcn]) HM.out hS1 (by rw [hto1]; simp)
          obtain ⟨i1, i2, i3⟩ := instAll_inv Hok.out hi
          have HIn := Lib.hid hin
          have Hi1 := Lib.hid i1
          have Hi2 := Lib.hid i2
          have HK2 : Hid (A = times n.trans h (k + 1) tt u) := Lib.hid (by rw [HK.out, if_pos ⟨g1, g2⟩])
          have Hk := Lib.hid (hk g1 g2)
          have Hto1 := Lib.hid hto1
          have Herr := Lib.hid (fun he => times_err (ts := n.trans) (h := h) (t := tt) (k := k) (s := u) he)
          have Hgo := Lib.hid (fun he => times_go (ts := n.trans) (h := h) (t := tt) (k := k) (s := u) he)
          have HU : Hid ((instAll n.trans tt u).1.m.length = np ∧ (instAll n.trans tt u).1.log.length ≤ 2000) := Lib.hid ⟨by rw [i1.len, Hnp.out], i1.ll⟩
          clear hi hE1 hS1 hin i1 i2 i3 hI hk ht1 hto1 hu
          generalize instAll n.trans tt u = X at HIn Hi1 Hi2 Herr Hgo HU
          obtain ⟨u2, er⟩ := X
          simp only at HIn Hi1 Hi2 Herr Hgo HU
          have g1b : decide (0 ≤ tt) = true := decide_eq_true g1
          have g2b : decide (tt ≤ h) = true := decide_eq_true g2
          by_cases he : er = 0
          · subst he
            go_wp2_with fail
            refine HIn.out.mono ?_
            rintro r w6 ⟨rfl, e2, lg, hE2, hS2, ht2, _, hto2⟩
            have hto3 : e2.told = [] := by rw [hto2, Hto1.out, told_none Hawb.out]; rfl
            have Hnx := Lib.hid (enextS_any hE2 hS2 (fun x hx => (Hi1.out.et x hx).1))
            have HE2 := Lib.hid hE2
            have HS2 := Lib.hid hS2
            have Ht2 := Lib.hid ht2
            have Hto3 := Lib.hid hto3
            clear hE2 hS2 ht2 hto2 hto3
            go_wp2_with fail
            refine Hnx.out.mono ?_
            rintro r w7 ⟨rfl, hb7⟩
            have H7 := Lib.hid (HE2.out.go hb7)
            have HK3 := Lib.hid (HK2.out.trans (Hgo.out trivial))
            have Hni := Lib.hid (fun h0 => next_inv Hi1.out Hi2.out h0)
            obtain ⟨z, hz⟩ : ∃ z, z = nextT u2.q := ⟨_, rfl⟩
            rw [← hz] at HK3 Hni ⊢
            clear hz hb7 Hnx
            go_wp2
            go_roundg k
            case rel =>
              refine ⟨z, tt, u2, e2, rfl, H7.out, HS2.out, Ht2.out, Hto3.out, HU.out, fun h0 => (Hni.out h0).2.1, fun h0 h1 => ?_, HK3⟩
              have := (Hni.out h0).1
              have := Hk.out
              omega
            case measure => omega
          · have hne : (er == 0) = false := by simpa using he
            have hne2 : (er != 0) = true := by simpa using he
            have HE : Hid (A = (u2, tt, er)) := Lib.hid (by rw [HK2.out, Herr.out he])
            clear he
            go_wp2_with fail
            refine HIn.out.mono ?_
            rintro r w6 ⟨rfl, e2, lg, hE2, hS2, ht2, _, _⟩
            have HE2 := Lib.hid hE2
            have HS2 := Lib.hid hS2
            have Ht2 := Lib.hid ht2
            clear hE2 hS2 ht2
            have hres := eresult_any HE2.out (by rw [HS2.out.log]; have := HU.out.2; omega) (by rw [HS2.out.m]; have := HU.out.1; omega) (by rw [HS2.out.way, wayL_len]; have := hcn; rw [hcn, ← Hnp.out]; omega)
            have Hres := Lib.hid hres
            clear hres
            go_wp2_with fail
            refine Hres.out.mono ?_
            rintro r w7 hr
            obtain ⟨z0, y0, d0, z1, y1, d1, z2, y2, d2, W9, rfl, ⟨r0, r1, r2, r3, q0, q1, q2, q3, rl⟩, eW, c0, c1, c2, c3, hfin⟩ := SRes.mk (R := w.heap.size + 1) (np := np) (n := n) (h := h) HAr.out (ownS (S := fun _ => False) HR4.out (Kept.of_below HE2.out.low) (fun _ _ e => e)) (HW4.out.trans (HE2.out.low.mono HW4.out.size)) hr (by rw [HE.out]; exact HS2.out.log) (by rw [HE.out]; exact HS2.out.m) (by rw [HE.out, HS2.out.way, hcn, ← Hnp.out, HU.out.1]) (by rw [HE.out]; exact Ht2.out) (by rw [HE.out]; exact HU.out.1)
            rw [HE.out] at hfin
            have Hfin := Lib.hid (And.intro c0 (And.intro c1 (And.intro c2 (And.intro c3 hfin))))
            subst eW
            clear c0 c1 c2 c3 hfin hr
            go_wp2
            obtain ⟨c0, c1, c2, c3, hfin⟩ := Hfin.out
            refine bodyPost_ret (srun_ret _ _ _ _ _ _ (.int .i64 er) c0 c1 c2 c3 _ rfl rfl) rfl ?_
            exact hfin
        · have g1b : decide (0 ≤ tt) = true := decide_eq_true g1
          have g2b : decide (tt ≤ h) = false := decide_eq_false g2
          have HE : Hid (A = (u, tc, 0)) := Lib.hid (by rw [HK.out, if_neg (by omega)])
          have HE2 := Lib.hid hE1
          have HS2 := Lib.hid hS1
          have Ht2 := Lib.hid ht1
          have HU := Lib.hid hu
          clear hE1 hS1 ht1 hto1 hu hI hk
          have hres := eresult_any HE2.out (by rw [HS2.out.log]; have := HU.out.2; omega) (by rw [HS2.out.m]; have := HU.out.1; omega) (by rw [HS2.out.way, wayL_len]; have := hcn; rw [hcn, ← Hnp.out]; omega)
          have Hres := Lib.hid hres
          clear hres
          go_wp2_with fail
          refine Hres.out.mono ?_
          rintro r w7 hr
          obtain ⟨z0, y0, d0, z1, y1, d1, z2, y2, d2, W9, rfl, ⟨r0, r1, r2, r3, q0, q1, q2, q3, rl⟩, eW, c0, c1, c2, c3, hfin⟩ := SRes.mk (R := w.heap.size + 1) (np := np) (n := n) (h := h) HAr.out (ownS (S := fun _ => False) HR4.out (Kept.of_below HE2.out.low) (fun _ _ e => e)) (HW4.out.trans (HE2.out.low.mono HW4.out.size)) hr (by rw [HE.out]; exact HS2.out.log) (by rw [HE.out]; exact HS2.out.m) (by rw [HE.out, HS2.out.way, hcn, ← Hnp.out, HU.out.1]) (by rw [HE.out]; exact Ht2.out) (by rw [HE.out]; exact HU.out.1)
          rw [HE.out] at hfin
          have Hfin := Lib.hid (And.intro c0 (And.intro c1 (And.intro c2 (And.intro c3 hfin))))
          subst eW
          clear c0 c1 c2 c3 hfin hr
          go_wp2
          obtain ⟨c0, c1, c2, c3, hfin⟩ := Hfin.out
          refine bodyPost_ret (srun_ret _ _ _ _ _ _ (.int .i64 0) c0 c1 c2 c3 _ rfl rfl) rfl ?_
          exact hfin
      · have g1b : decide (0 ≤ tt) = false := decide_eq_false g1
        have HE : Hid (A = (u, tc, 0)) := Lib.hid (by rw [HK.out, if_neg (by omega)])
        have HE2 := Lib.hid hE1
        have HS2 := Lib.hid hS1
        have Ht2 := Lib.hid ht1
        have HU := Lib.hid hu
        clear hE1 hS1 ht1 hto1 hu hI hk
        have hres := eresult_any HE2.out (by rw [HS2.out.log]; have := HU.out.2; omega) (by rw [HS2.out.m]; have := HU.out.1; omega) (by rw [HS2.out.way, wayL_len]; have := hcn; rw [hcn, ← Hnp.out]; omega)
        have Hres := Lib.hid hres
        clear hres
        go_wp2_with fail
        refine Hres.out.mono ?_
        rintro r w7 hr
        obtain ⟨z0, y0, d0, z1, y1, d1, z2, y2, d2, W9, rfl, ⟨r0, r1, r2, r3, q0, q1, q2, q3, rl⟩, eW, c0, c1, c2, c3, hfin⟩ := SRes.mk (R := w.heap.size + 1) (np := np) (n := n) (h := h) HAr.out (ownS (S := fun _ => False) HR4.out (Kept.of_below HE2.out.low) (fun _ _ e => e)) (HW4.out.trans (HE2.out.low.mono HW4.out.size)) hr (by rw [HE.out]; exact HS2.out.log) (by rw [HE.out]; exact HS2.out.m) (by rw [HE.out, HS2.out.way, hcn, ← Hnp.out, HU.out.1]) (by rw [HE.out]; exact Ht2.out) (by rw [HE.out]; exact HU.out.1)
        rw [HE.out] at hfin
        have Hfin := Lib.hid (And.intro c0 (And.intro c1 (And.intro c2 (And.intro c3 hfin))))
        subst eW
        clear c0 c1 c2 c3 hfin hr
        go_wp2
        obtain ⟨c0, c1, c2, c3, hfin⟩ := Hfin.out
        refine bodyPost_ret (srun_ret _ _ _ _ _ _ (.int .i64 0) c0 c1 c2 c3 _ rfl rfl) rfl ?_
        exact hfin
end Go.Proofs.Ytpbbdnicafifpaa
