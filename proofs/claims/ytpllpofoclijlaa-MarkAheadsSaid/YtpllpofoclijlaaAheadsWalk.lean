/-
  The walk of the law MarkAheads: for every list of bytes it returns true.
  Conditions: none beyond each theorem's own.
-/
import Derived.Test.YtpllpofoclijlaaMarkW
import Derived.Test.YtpllpofoclijlaaMarkM
import Derived.Deep.RegionLaw
namespace Go.Proofs.Ytpllpofoclijlaa
open Go.RowKit
set_option linter.unusedVariables false

/-- numbers that can be read -/
def ToksAt (w : World) (v : Value) (ts : List Nat) : Prop := RowAt 1 w v ts.length (ts.flatMap tokL1) ∧ ∀ t ∈ ts, t < 256
theorem ToksAt.below {w w' : World} {v : Value} {ts : List Nat} (h : ToksAt w v ts) (hb : Below w.heap.size w w') : ToksAt w' v ts := ⟨h.1.below hb, h.2⟩
theorem ToksAt.at_ {w : World} {a : Option Addr} {n cap : Nat} {ts : List Nat} (h : ToksAt w (.slice a n cap) ts) {i t : Nat} (hi : ts[i]? = some t) :
    ∃ b off, a = some ⟨b, off, none⟩ ∧ b < w.heap.size ∧ w.cell? ⟨b, off + i, none⟩ = some (.int .u8 (t : Int)) ∧ t < 256 := by
  obtain ⟨b, off, e, hb, hc⟩ := RowAt.elem tokL1_len h.1 hi
  exact ⟨b, off, e, hb, by have := hc 0 _ rfl; simpa using this, h.2 t (List.mem_of_getElem? hi)⟩

/-- the transitions under way -/
def trP (p : Int) : Tr × Value × Value × Value := (⟨{ data := #[] }, 0, p, [], [], []⟩, .slice none 0 0, .slice none 0 0, .slice none 0 0)
def trA (t : Nat) : Tr × Value × Value × Value := trP ((t : Int) % 4)
theorem wrap4 (t : Nat) : IntKind.i64.wrap ((t : Int).tmod 4) = (t : Int) % 4 := by
  rw [Int.tmod_eq_emod_of_nonneg (by omega), IntWalk.i64_left, IntWalk.wrap64_in _ (by omega)]
def trsA (ts : List Nat) (k : Nat) : List (Tr × Value × Value × Value) := (ts.take k).map trA
theorem trsA_len (ts : List Nat) (k : Nat) (h : k ≤ ts.length) : (trsA ts k).length = k := by simp [trsA]; omega
theorem trsA_succ {ts : List Nat} {k t : Nat} (h : ts[k]? = some t) : trsA ts (k + 1) = trsA ts k ++ [trA t] := by unfold trsA; rw [take_at h, List.map_append]; rfl

structure AH (w wr : World) (b : Nat) (v0 vt : Value) (l : List (Tr × Value × Value × Value)) : Prop where
  all : AllOwn w.heap.size wr [boxRow b 30 [v0, vt], trRow vt l]
  below : Below w.heap.size w wr
section
variable {w wr W w2 : World} {b : Nat} {v0 vt v2 : Value} {l : List (Tr × Value × Value × Value)}
theorem AH.go (h : AH w wr b v0 vt l) (hb : Below wr.heap.size wr W) : AH w W b v0 vt l := ⟨h.all.below hb, h.below.trans (hb.mono h.below.size)⟩
theorem AH.box (h : AH w wr b v0 vt l) : (boxRow b 30 [v0, vt]).own w.heap.size wr := h.all.own _ (by simp)
theorem AH.c0 (h : AH w wr b v0 vt l) : wr.cell? ⟨b, 0, none⟩ = some v0 := boxRow.cell h.box rfl
theorem AH.c1 (h : AH w wr b v0 vt l) : wr.cell? ⟨b, 1, none⟩ = some vt := boxRow.cell h.box rfl
theorem AH.froz (h : AH w wr b v0 vt l) (j : Nat) : wr.frozen? ⟨b, j, none⟩ = false := boxRow.froz h.box j
theorem AH.lt (h : AH w wr b v0 vt l) : w.heap.size ≤ b ∧ b < wr.heap.size := boxRow.lt h.box
theorem AH.tr (h : AH w wr b v0 vt l) : OwnT w.heap.size wr vt l := h.all.own (trRow vt l) (by simp)
theorem AH.start {w1 : World} (h : Below w.heap.size w w1) : AH w (w1.alloc (.cells #[.slice none 0 0, .slice none 0 0] 30)) w1.heap.size (.slice none 0 0) (.slice none 0 0) [] := by
  have h1 := (AllOwn.nil w.heap.size w1).add ((Below.refl _ w1).alloc (Nat.le_refl _) _) (boxRow.new w.heap.size w1 30 #[.slice none 0 0, .slice none 0 0] h.size) (fun k e => by injection e with e; subst e; exact Nat.le_refl _)
  have h2 := h1.add (Below.refl _ _) (r := trRow (.slice none 0 0) []) (ownNil _ _ _ _) (fun k e => by cases e)
  exact ⟨h2, h.alloc h.size _⟩
theorem AH.push {x : Tr × Value × Value × Value} (h : AH w W b v0 vt l) (h2 : OwnT w.heap.size w2 v2 (l ++ [x])) (hk : Kept (fun k => vt.ownBlock = some k) W w2) (hv : v2.ownBlock = vt.ownBlock ∨ v2.ownBlock = some (W.heap.size + 1)) :
    AH w (w2.setCell ⟨b, 1, none⟩ v2) b v0 v2 (l ++ [x]) ∧ w2.cell? ⟨b, 1, none⟩ = some vt ∧ w2.frozen? ⟨b, 1, none⟩ = false ∧ b < w2.heap.size := by
  have a1 := AllOwn.swap (pre := [boxRow b 30 [v0, vt]]) (r := trRow vt l) (r' := trRow v2 (l ++ [x])) (post := []) h.all hk h2 (by
      rcases hv with e | e
      · exact .inl e
      · exact .inr ⟨_, e, by omega⟩)
  have a2 := AllOwn.store (pre := []) (b := b) (t := 30) (cs := [v0, vt]) (post := [trRow v2 (l ++ [x])]) a1 1 v2
  have hb2 := a1.own (boxRow b 30 [v0, vt]) (by simp)
  refine ⟨⟨a2.1, ?_⟩, boxRow.cell hb2 rfl, boxRow.froz hb2 1, (boxRow.lt hb2).2⟩
  have hlb := h.lt.1
  have hk2 : Kept (fun k => w.heap.size ≤ k) W (w2.setCell ⟨b, 1, none⟩ v2) := (hk.mono (fun k _ e => (Row.lt (r := trRow vt l) h.tr e).1)).trans (a2.2.mono (fun k _ e => by omega))
  exact h.below.trans (hk2.below (fun k hk => hk) h.below.size)
/-- both cells of the box stored -/
theorem AH.put (h : AH w W b v0 vt l) (x y : Value) : Below w.heap.size w ((W.setCell ⟨b, 0, none⟩ x).setCell ⟨b, 1, none⟩ y) ∧ Kept (fun k => k = b) W ((W.setCell ⟨b, 0, none⟩ x).setCell ⟨b, 1, none⟩ y) ∧ ((W.setCell ⟨b, 0, none⟩ x).setCell ⟨b, 1, none⟩ y).cell? ⟨b, 0, none⟩ = some x ∧ ((W.setCell ⟨b, 0, none⟩ x).setCell ⟨b, 1, none⟩ y).cell? ⟨b, 1, none⟩ = some y ∧ b < ((W.setCell ⟨b, 0, none⟩ x).setCell ⟨b, 1, none⟩ y).heap.size := by
  have h1 := AllOwn.store (pre := []) (b := b) (t := 30) (cs := [v0, vt]) (post := [trRow vt l]) h.all 0 x
  have h2 := AllOwn.store (pre := []) (b := b) (t := 30) (cs := [x, vt]) (post := [trRow vt l]) h1.1 1 y
  have hb := h2.1.own (boxRow b 30 [x, y]) (List.mem_cons_self ..)
  have hlb := h.lt.1
  exact ⟨h.below.trans ((h1.2.trans h2.2).below (fun k e => by omega) h.below.size), h1.2.trans h2.2, boxRow.cell hb rfl, boxRow.cell hb rfl, (boxRow.lt hb).2⟩
end

theorem named_at {ts : List Nat} {K i t : Nat} (h : ts[i]? = some t) (hi : i < K) : (namedN ⟨[], (trsA ts K).map (·.1)⟩).trans[i]? = some (rnT i (trA t).1) := by
  simp [namedN, List.getElem?_mapIdx, trsA, List.getElem?_map, h, hi]
theorem named_len (ts : List Nat) (K : Nat) (h : K ≤ ts.length) : (namedN ⟨[], (trsA ts K).map (·.1)⟩).trans.length = K := by
  simp [namedN, trsA]; omega

set_option maxRecDepth 100000 in
set_option maxHeartbeats 8000000 in
theorem aheads_small {w : World} {aT : Option Addr} {cT nT : Nat} {ts : List Nat} (h : ToksAt w (.slice aT nT cT) ts) (hn : nT = ts.length) (h12 : nT ≤ 12) :
    Calls Try.prog 6 #[.slice aT nT cT] w fun e w' => e = .returned (.bool true) ∧ Below w.heap.size w w' := by
  have H := Lib.hid h
  have Hn := Lib.hid hn
  have h12i : ¬ (12 : Int) < (nT : Int) := by omega
  have h12b : decide ((12 : Int) < (nT : Int)) = false := decide_eq_false h12i
  have h12c : decide (12 < nT) = false := decide_eq_false (by omega)
  have H12 := Lib.hid h12
  clear h hn h12
  go_enter Try.func6, Try.ntmps6
  go_wp2_with fail
  refine (awake8_any _).mono ?_
  rintro e w1 ⟨rfl, hb⟩
  have Hs := Lib.hid (AH.start hb)
  obtain ⟨b, hbb⟩ : ∃ b, b = w1.heap.size := ⟨_, rfl⟩
  rw [← hbb] at Hs
  go_wp2
  rw [← hbb]
  clear hb hbb
  go_loopw [4] (fun i wr => ∃ k : Nat, k ≤ nT ∧ i = .int .i64 k ∧ ∃ vt, AH w wr b (.slice none 0 0) vt (trsA ts k)) (fun i _ => nT - (intOf i).toNat)
  case atStart => exact ⟨0, by omega, rfl, _, Hs.out⟩
  case round =>
    rename World => v1
    obtain ⟨k, hk, rfl, vt, hin⟩ := hrel
    have c0 := hin.c0
    have c1 := hin.c1
    have hlt0 := hin.lt.2
    by_cases hlt : k < nT
    · have hlti : (k : Int) < (nT : Int) := by omega
      obtain ⟨t, ht⟩ := at_lt (l := ts) (k := k) (by rw [← Hn.out]; exact hlt)
      obtain ⟨bt, ot, rfl, hbt, et, h256⟩ := (H.out.below hin.below).at_ ht
      have hd := hin.go (Below.refl _ _).drew
      obtain ⟨u, w2, hr, ho2, hk2, hv2⟩ := run_push_tr 28 (trP (IntKind.i64.wrap ((t : Int).tmod 4))) hd.tr rfl rfl rfl (by rw [trsA_len _ _ (by rw [← Hn.out]; omega)]; have := H12.out; omega) hd.below.size
      obtain ⟨av2, nv2, cv2, rfl⟩ := own_form3 ho2
      obtain ⟨hin2, g1, g2, g3⟩ := hd.push ho2 hk2 hv2
      rw [show trP (IntKind.i64.wrap ((t : Int).tmod 4)) = trA t by rw [wrap4]; rfl, ← trsA_succ ht] at hin2
      have hr2 := hr
      have Hin2 := Lib.hid hin2
      clear hin hin2 ho2 hk2 hv2 hd ht hr2
      go_wp2
      go_region_law (first | (refine step_append_eq (by rfl) (.tmp 23) (.tmp 31) 28 (by rfl) (by rfl) (by rfl) hr ?_))
      all_goals
        clear hr g1 g2 g3 c0 c1
        go_wp2
        go_roundw
        case rel => exact ⟨k + 1, by omega, by go_num, _, Hin2.out⟩
        case measure => simp [intOf]; omega
    · have hge : ¬ (k : Int) < (nT : Int) := by omega
      obtain rfl : k = nT := by omega
      have hln := trsA_len ts k (by rw [← Hn.out]; omega)
      have htr := hin.tr
      obtain ⟨avt, cvt, e⟩ := own_form htr
      rw [hln] at e
      subst e
      have hT : TrsAt v1 (.slice avt k cvt) (trsA ts k) := ⟨RowAt.of_own htr, fun x hx => by
        unfold trsA at hx
        obtain ⟨t, _, rfl⟩ := List.mem_map.1 hx
        exact ⟨arcsAt_nil _, arcsAt_nil _, arcsAt_nil _⟩⟩
      have hnm := named_own (n := ⟨[], (trsA ts k).map (·.1)⟩) (lt := trsA ts k) (np := 0) (nt := k) (ap := none) (cp := 0) rfl (by rw [List.length_map]; exact hln.symm) (by omega) (by have := H12.out; omega) (RowAt.nil _ _) rfl hT
      have Hin := Lib.hid hin
      clear hin hT htr hln
      go_wp2_with fail
      refine hnm.mono ?_
      rintro e w3 ⟨vp, vt, rfl, ha3, hb3⟩
      have h3 := Hin.out.go hb3
      obtain ⟨p1, p2, p3, p4, p5⟩ := h3.put vp vt
      have hb0 := Hin.out.lt.2
      have ha4 := ha3.keep p2 (fun k h1 h2 e => by omega)
      obtain ⟨a1, c1', e1⟩ := own_form (ha4.own (plRow vp (namedN ⟨[], (trsA ts k).map (·.1)⟩).places) (by simp))
      obtain ⟨a2, c2', e2⟩ := own_form (ha4.own (trRow vt ((trsA ts k).mapIdx rnX)) (by simp))
      replace e1 : vp = .slice a1 0 c1' := e1
      replace e2 : vt = .slice a2 ((trsA ts k).mapIdx rnX).length c2' := e2
      rw [List.length_mapIdx, trsA_len ts k (by rw [← Hn.out]; omega)] at e2
      subst e1 e2
      have hnet : NetAt ((w3.setCell ⟨b, 0, none⟩ (.slice a1 0 c1')).setCell ⟨b, 1, none⟩ (.slice a2 k c2')) (.slice a1 0 c1') (.slice a2 k c2') (namedN ⟨[], (trsA ts k).map (·.1)⟩) := by
        refine ⟨RowAt.of_own (ha4.own (plRow (.slice a1 0 c1') (namedN ⟨[], (trsA ts k).map (·.1)⟩).places) (by simp)), (trsA ts k).mapIdx rnX, by rw [namedN_trans]; rfl, RowAt.of_own (ha4.own (trRow (.slice a2 k c2') ((trsA ts k).mapIdx rnX)) (by simp)), ?_⟩
        intro y hy
        obtain ⟨i, hi, rfl⟩ := List.mem_mapIdx.1 hy
        have hm : (trsA ts k)[i] ∈ trsA ts k := List.getElem_mem hi
        unfold trsA at hm
        obtain ⟨t, _, ht⟩ := List.mem_map.1 hm
        have e : rnX i (trsA ts k)[i] = rnX i (trA t) := by rw [ht]; rfl
        rw [e]
        exact ⟨arcsAt_nil _, arcsAt_nil _, arcsAt_nil _⟩
      have c30 := h3.c0
      have c31 := h3.c1
      have f30 := h3.froz 0
      have f31 := h3.froz 1
      have h3lt := h3.lt.2
      have Hs4 := Lib.hid (And.intro p1 (And.intro p3 (And.intro p4 (And.intro p5 hnet))))
      clear h3 p1 p2 p3 p4 p5 ha4 ha3 hb3 hnm hnet c0 c1
      go_wp2
      clear c30 c31 f30 f31 h3lt Hin
      revert Hs4
      generalize (w3.setCell ⟨b, 0, none⟩ (.slice a1 0 c1')).setCell ⟨b, 1, none⟩ (.slice a2 k c2') = W4
      intro Hs4
      have HB4 := Lib.hid Hs4.out.1
      have Hnet := Lib.hid Hs4.out.2.2.2.2
      have Hc := Lib.hid (fun (W : World) (h : Below W4.heap.size W4 W) => (⟨(h.cell Hs4.out.2.2.2.1).trans Hs4.out.2.1, (h.cell Hs4.out.2.2.2.1).trans Hs4.out.2.2.1⟩ : W.cell? ⟨b, 0, none⟩ = some (.slice a1 0 c1') ∧ W.cell? ⟨b, 1, none⟩ = some (.slice a2 k c2')))
      clear Hs4
      go_loopw [5] (fun i wr => ∃ i' : Nat, i' ≤ k ∧ i = .int .i64 i' ∧ Below W4.heap.size W4 wr) (fun i _ => k - (intOf i).toNat)
      case atStart => exact ⟨0, by omega, rfl, Below.refl _ _⟩
      case round =>
        rename World => v1
        obtain ⟨i, hi, rfl, hb4⟩ := hrel
        by_cases hlt : i < k
        · have hlti : (i : Int) < (k : Int) := by omega
          have Hb4 := Lib.hid hb4
          clear hb4
          go_wp2
          go_loopw [6] (fun j wr => ∃ j' : Nat, j' ≤ k ∧ j = .int .i64 j' ∧ Below W4.heap.size W4 wr) (fun j _ => k - (intOf j).toNat)
          case atStart => exact ⟨0, by omega, rfl, Hb4.out⟩
          case round =>
            rename World => v2
            obtain ⟨j, hj, rfl, hb4⟩ := hrel
            by_cases hlt2 : j < k
            · have hltj : (j : Int) < (k : Int) := by omega
              obtain ⟨ti, hti⟩ := at_lt (l := ts) (k := i) (by rw [← Hn.out]; exact hlt)
              obtain ⟨tj, htj⟩ := at_lt (l := ts) (k := j) (by rw [← Hn.out]; exact hlt2)
              have HT := H.out.below (HB4.out.trans (hb4.mono HB4.out.size))
              obtain ⟨bt, ot, rfl, hbt, ei, _⟩ := HT.at_ hti
              obtain ⟨bt', ot', e, hbt', ej, _⟩ := HT.at_ htj
              injection e with e
              injection e with e1 e2 _
              subst e1 e2
              have Hti := Lib.hid (named_at hti hlt)
              have Htj := Lib.hid (named_at htj hlt2)
              have Hd : Hid (∀ q, Below W4.heap.size W4 (v2.drewN q)) := Lib.hid (fun q => hb4.trans ((drewNb v2 q).mono hb4.size))
              have Hah : Hid (∀ (W : World), Below W4.heap.size W4 W → ∀ (x y : Nat) (tx ty : Tr), (namedN ⟨[], (trsA ts k).map (·.1)⟩).trans[x]? = some tx → (namedN ⟨[], (trsA ts k).map (·.1)⟩).trans[y]? = some ty → ∀ q, q = aheadB tx.prio ty.prio x y → Calls Try.prog 24 #[.agg #[.slice a1 0 c1', .slice a2 k c2'], .int .i64 x, .int .i64 y] W fun e w' => e = .returned (.bool q) ∧ Below W.heap.size W w') :=
                Lib.hid (fun W hW x y tx ty hx hy q hq => ahead_any (named_len ts k (by rw [← Hn.out]; exact Nat.le_refl _)).symm (Hnet.out.below hW) hx hy q hq)
              obtain ⟨c0, c1⟩ := Hc.out _ hb4
              have Hpri : Hid ((rnT i (trA ti).1).prio = (ti : Int) % 4 ∧ (rnT j (trA tj).1).prio = (tj : Int) % 4) := Lib.hid ⟨rfl, rfl⟩
              clear hti htj HT hb4
              by_cases g1 : (ti : Int) % 4 < (tj : Int) % 4
              · have Hq : Hid (true = aheadB (rnT i (trA ti).1).prio (rnT j (trA tj).1).prio i j) := Lib.hid (by rw [Hpri.out.1, Hpri.out.2]; simp [aheadB, g1])
                go_wp2
                go_quiet (fail)
                go_wp2_with fail
                refine (Hah.out _ (Hd.out _) i j _ _ Hti.out Htj.out true Hq.out).mono ?_
                rintro e w5 ⟨rfl, hb5⟩
                have Hb5 := Lib.hid ((Hd.out _).trans (hb5.mono (Hd.out _).size))
                clear hb5
                go_wp2
                go_roundw
                case rel => exact ⟨j + 1, by omega, by go_num, Hb5.out⟩
                case measure => simp [intOf]; omega
              · have g1b : decide ((ti : Int) % 4 < (tj : Int) % 4) = false := decide_eq_false g1
                by_cases g2 : (ti : Int) % 4 = (tj : Int) % 4
                · by_cases g3 : i < j
                  · have g3i : (i : Int) < (j : Int) := by omega
                    have Hq : Hid (true = aheadB (rnT i (trA ti).1).prio (rnT j (trA tj).1).prio i j) := Lib.hid (by rw [Hpri.out.1, Hpri.out.2]; simp [aheadB, g2, g3])
                    go_wp2
                    go_quiet (fail)
                    go_wp2_with fail
                    refine (Hah.out _ (Hd.out _) i j _ _ Hti.out Htj.out true Hq.out).mono ?_
                    rintro e w5 ⟨rfl, hb5⟩
                    have Hb5 := Lib.hid ((Hd.out _).trans (hb5.mono (Hd.out _).size))
                    clear hb5
                    go_wp2
                    go_roundw
                    case rel => exact ⟨j + 1, by omega, by go_num, Hb5.out⟩
                    case measure => simp [intOf]; omega
                  · have g3i : ¬ (i : Int) < (j : Int) := by omega
                    have g3b : decide ((i : Int) < (j : Int)) = false := decide_eq_false g3i
                    have Hq : Hid (false = aheadB (rnT i (trA ti).1).prio (rnT j (trA tj).1).prio i j) := Lib.hid (by rw [Hpri.out.1, Hpri.out.2]; simp [aheadB, g2, g3])
                    go_wp2
                    go_quiet (fail)
                    go_wp2_with fail
                    refine (Hah.out _ (Hd.out _) i j _ _ Hti.out Htj.out false Hq.out).mono ?_
                    rintro e w5 ⟨rfl, hb5⟩
                    have Hb5 := Lib.hid ((Hd.out _).trans (hb5.mono (Hd.out _).size))
                    clear hb5
                    go_wp2
                    go_roundw
                    case rel => exact ⟨j + 1, by omega, by go_num, Hb5.out⟩
                    case measure => simp [intOf]; omega
                · have g2b : decide ((ti : Int) % 4 = (tj : Int) % 4) = false := decide_eq_false g2
                  have g2c : ((ti : Int) % 4 == (tj : Int) % 4) = false := by simpa using g2
                  have Hq : Hid (false = aheadB (rnT i (trA ti).1).prio (rnT j (trA tj).1).prio i j) := Lib.hid (by rw [Hpri.out.1, Hpri.out.2]; simp [aheadB, g1, g2])
                  go_wp2
                  go_quiet (fail)
                  go_wp2_with fail
                  refine (Hah.out _ (Hd.out _) i j _ _ Hti.out Htj.out false Hq.out).mono ?_
                  rintro e w5 ⟨rfl, hb5⟩
                  have Hb5 := Lib.hid ((Hd.out _).trans (hb5.mono (Hd.out _).size))
                  clear hb5
                  go_wp2
                  go_roundw
                  case rel => exact ⟨j + 1, by omega, by go_num, Hb5.out⟩
                  case measure => simp [intOf]; omega
            · have hge2 : ¬ (j : Int) < (k : Int) := by omega
              have Hb5 := Lib.hid hb4
              clear hb4
              go_wp2
              go_roundw
              case rel => exact ⟨i + 1, by omega, by go_num, Hb5.out⟩
              case measure => simp [intOf]; omega
        · have hge2 : ¬ (i : Int) < (k : Int) := by omega
          have Hb5 := Lib.hid hb4
          clear hb4
          go_wp2
          go_ret
          exact ⟨rfl, HB4.out.trans (Hb5.out.mono HB4.out.size)⟩

set_option maxRecDepth 100000 in
set_option maxHeartbeats 4000000 in
theorem aheads_big {w : World} {aT : Option Addr} {cT nT : Nat} (hT : nT ≤ 9223372036854775807) (h : 12 < nT) :
    Calls Try.prog 6 #[.slice aT nT cT] w fun e w' => e = .returned (.bool true) ∧ Below w.heap.size w w' := by
  have h1i : (12 : Int) < (nT : Int) := by omega
  go_enter Try.func6, Try.ntmps6
  go_wp2_with fail
  refine (awake8_any _).mono ?_
  rintro e w1 ⟨rfl, hb⟩
  have Hb := Lib.hid hb
  clear hb
  go_wp2_with fail
  refine (awake8_any _).mono ?_
  rintro e w2 ⟨rfl, hb⟩
  have Hb2 := Lib.hid (Hb.out.trans (hb.mono Hb.out.size))
  clear hb
  go_wp2
  go_ret
  exact ⟨rfl, Hb2.out⟩

theorem aheads_law {w : World} {aT : Option Addr} {cT : Nat} {ts : List Nat} (h : ToksAt w (.slice aT ts.length cT) ts) :
    Calls Try.prog 6 #[.slice aT ts.length cT] w fun e w' => e = .returned (.bool true) ∧ Below w.heap.size w w' := by
  by_cases h12 : ts.length ≤ 12
  · exact aheads_small h rfl h12
  · exact aheads_big (RowAt.max h.1) (by omega)

section
open Go.ChangeShapes Go.WideShapes Go.Deep Go.Joins
variable {H : Type} {enc : TypeId × Value → H} {w : World}
theorem toks_in {n : Nat} {v : Value} {x : DataW H × List MemPlace} (h : DataW.trod enc Try.prog w 0 (fun _ => true) true n 22 [v] = some x) : ∃ (ts : List Nat) (a : Option Addr) (c : Nat), v = .slice a ts.length c ∧ ToksAt w v ts := by
  obtain ⟨ts, h1, g1⟩ := row_in tokL1_len (by omega) Try.underlying22 cellsU8 0 (fun n cs x => tok_dec n cs x) h
  obtain ⟨a, c, e⟩ := h1.len
  exact ⟨ts, a, c, e, h1, g1⟩
end
end Go.Proofs.Ytpllpofoclijlaa
