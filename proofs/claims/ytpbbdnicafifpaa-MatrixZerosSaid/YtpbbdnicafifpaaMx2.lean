/-
  What package matrix's add and Of come to: what each transition changes on each place. What the document's own Change comes to, and its comparison of two lists of lists that are one. What the document's own comparison of two lists of lists comes to, where they are one; a matrix made of numbers by the laws of layer 11; their example.
  Conditions: none beyond each theorem's own.
-/
import Derived.Test.YtpbbdnicafifpaaMx1
import Derived.Test.YtpbbdnicafifpaaRunMath
import Derived.Test.YtpbbdnicafifpaaNamed
import Derived.Test.YtpbbdnicafifpaaNetW
import Derived.Test.YtpbbdnicafifpaaInBx
/-! ## MxD -/
namespace Go.Proofs.Ytpbbdnicafifpaa
open Go.RowKit
set_option linter.unusedVariables false

/-- how many tokens arcs give to a place, or take from it -/
def sumA (l : List (Int × Int)) (p : Nat) : Int := ((l.filter (fun a => a.1 == (p : Int))).map (·.2)).sum
def sumTo (l : List (Int × Int)) (p k : Nat) : Int := sumA (l.take k) p
theorem sumTo_zero (l : List (Int × Int)) (p : Nat) : sumTo l p 0 = 0 := rfl
theorem sumTo_succ {l : List (Int × Int)} {k : Nat} {a : Int × Int} (h : l[k]? = some a) (p : Nat) : sumTo l p (k + 1) = sumTo l p k + (if a.1 = (p : Int) then a.2 else 0) := by
  unfold sumTo sumA
  rw [take_at h, List.filter_append, List.map_append, List.sum_append]
  congr 1
  by_cases e : a.1 = (p : Int)
  · simp [e]
  · simp [e]
theorem sumTo_all {l : List (Int × Int)} {k : Nat} (h : l.length ≤ k) (p : Nat) : sumTo l p k = sumA l p := by unfold sumTo; rw [List.take_of_length_le h]
/-- arcs' numbers are bounded -/
def NumsOk (l : List (Int × Int)) : Prop := ∀ a ∈ l, 0 ≤ a.2 ∧ a.2 ≤ 1000000
theorem sumA_bd : ∀ {l : List (Int × Int)} (h : NumsOk l) (p : Nat), 0 ≤ sumA l p ∧ sumA l p ≤ 1000000 * l.length
  | [], _, p => by simp [sumA]
  | a :: l, h, p => by
    have ih := sumA_bd (l := l) (fun x hx => h x (by simp [hx])) p
    have ha := h a (by simp)
    unfold sumA at ih ⊢
    rw [List.filter_cons]
    split
    · simp only [List.map_cons, List.sum_cons, List.length_cons]
      omega
    · simp only [List.length_cons]
      omega
theorem sumTo_bd {l : List (Int × Int)} (h : NumsOk l) (p k : Nat) : 0 ≤ sumTo l p k ∧ sumTo l p k ≤ 1000000 * l.length := by
  have h1 := sumA_bd (l := l.take k) (fun x hx => h x (List.mem_of_mem_take hx)) p
  have h2 : (l.take k).length ≤ l.length := by simp; omega
  unfold sumTo
  omega

/-- the slices' blocks -/
def InVs (vs : List Value) (k : Nat) : Prop := ∃ i, i < vs.length ∧ (vs.getD i undef).ownBlock = some k
theorem RowsOwn.inVs {B : Nat} {w : World} {v : Value} {vs : List Value} {F : Nat → List Int} (h : RowsOwn B w v vs F) {k : Nat} (hk : InVs vs k) : B ≤ k ∧ k < w.heap.size := by
  obtain ⟨i, hi, e⟩ := hk
  exact World.ownsRow.lt (h.row i hi) k e

/-- so many arcs added to a column, so many times -/
def addG (g : Nat → Nat → Int) (col : Nat) (tm : Int) (l : List (Int × Int)) (k : Nat) (i j : Nat) : Int := if j = col then g i j + tm * sumTo l i k else g i j

set_option maxRecDepth 100000 in
set_option maxHeartbeats 4000000 in
theorem add_any {w0 w : World} {b cap r c col na ca : Nat} {aa : Option Addr} {vs : List Value} {g : Nat → Nat → Int} {li : List (Int × Int)} {tm : Int} (hvs : vs.length = r) (h : RowsOwn w0.heap.size w (.slice (some ⟨b, 0, none⟩) r cap) vs (fun i => rowF c (g i))) (hb : Below w0.heap.size w0 w) (hna : na = li.length) (hA : ArcsAt w0 (.slice aa na ca) li)
    (hcol : col < c) (hF : Fits r li) (hN : NumsOk li) (hl : li.length ≤ 1000) (hc : c ≤ 1000000) (htm : tm = 1 ∨ tm = -1) (hg : ∀ i, i < r → -1000000000000 ≤ g i col ∧ g i col ≤ 1000000000000) :
    Calls Try.prog 45 #[.slice (some ⟨b, 0, none⟩) r cap, .int .i64 col, .int .i64 tm, .slice aa na ca] w fun e w' => e = .returned (.tuple #[]) ∧ RowsOwn w0.heap.size w' (.slice (some ⟨b, 0, none⟩) r cap) vs (fun i => rowF c (addG g col tm li na i)) ∧ Kept (InVs vs) w w' := by
  have hx1 : na ≤ 9223372036854775807 := by have := RowAt.max hA; omega
  have Hvs := Lib.hid hvs
  have H := Lib.hid h
  have Hb := Lib.hid hb
  have Hna := Lib.hid hna
  have HA := Lib.hid hA
  have HF := Lib.hid hF
  have HN := Lib.hid hN
  have Hg := Lib.hid hg
  have Htm := Lib.hid htm
  have hbB : w0.heap.size ≤ b := h.outlt.1
  clear hvs h hb hna hA hF hN hg htm
  go_enter Try.func45, Try.ntmps45
  go_wp2
  go_loopw [12] (fun i wr => ∃ k : Nat, k ≤ na ∧ i = .int .i64 k ∧ RowsOwn w0.heap.size wr (.slice (some ⟨b, 0, none⟩) r cap) vs (fun i => rowF c (addG g col tm li k i)) ∧ Kept (InVs vs) w wr) (fun i _ => na - (intOf i).toNat)
  case atStart => exact ⟨0, by omega, rfl, H.out.congr fun i hi => rowF_congr fun j hj => by unfold addG; rw [sumTo_zero]; simp, Kept.refl _ _⟩
  case round =>
    rename World => v1
    obtain ⟨k, hk, rfl, ho, hkp⟩ := hrel
    by_cases hlt : k < na
    · obtain ⟨⟨x, y⟩, hx⟩ := at_lt (l := li) (k := k) (by rw [← Hna.out]; exact hlt)
      have hlti : (k : Int) < (na : Int) := by omega
      have hold : Below w0.heap.size w0 v1 := Hb.out.trans (hkp.below (fun j hj => (ho.inVs hj).1) Hb.out.size)
      obtain ⟨b1, off, rfl, hbw1, e0, e1⟩ := ArcsAt.at_ (HA.out.below hold) hx
      obtain ⟨hf1, hf2⟩ := HF.out _ (List.mem_of_getElem? hx)
      obtain ⟨hn1, hn2⟩ := HN.out _ (List.mem_of_getElem? hx)
      obtain ⟨p, rfl⟩ : ∃ p : Nat, x = p := ⟨x.toNat, by simp only at hf1; omega⟩
      simp only at hf1 hf2 hn1 hn2
      have hpr : p < r := by omega
      have hpv : p < vs.length := by rw [Hvs.out]; exact hpr
      obtain ⟨b4, c4, e4⟩ := OwnI.form1 (ho.row p hpv) (by rw [rowF_len]; omega)
      rw [rowF_len] at e4
      obtain ⟨c0, f0⟩ := ho.place hpv
      rw [e4] at c0
      have hrow := ho.row p hpv
      rw [e4] at hrow
      have hrl := hrow.lt
      have c5 := hrow.cell (rowF_get (addG g col tm li k p) hcol)
      have f5 := hrow.froz col
      have hlb := ho.outlt.2
      have hlen : li.length = na := Hna.out.symm
      have hbd := sumTo_bd HN.out p k
      have hgp := Hg.out p hpr
      have hbd2 := sumTo_bd HN.out p (k + 1)
      have hnew : addG g col tm li (k + 1) p col = addG g col tm li k p col + tm * y := by
        unfold addG
        rw [if_pos rfl, if_pos rfl, sumTo_succ hx]
        simp only [if_true]
        rw [Int.mul_add]; omega
      have hst := ho.setAt (z := addG g col tm li (k + 1) p col) hpv e4 (k := col) (by rw [rowF_len]; exact hcol)
      have hty : -1000000 ≤ tm * y ∧ tm * y ≤ 1000000 := by rcases Htm.out with e | e <;> rw [e] <;> omega
      obtain ⟨ty, hty0⟩ : ∃ ty, ty = tm * y := ⟨_, rfl⟩
      rw [← hty0] at hty hnew
      have hm1 : IntKind.i64.wrap (tm * y) = ty := by rw [hty0]; exact IntWalk.i64_in _ (by rw [← hty0]; omega)
      have hval : -1000000000000 - 1000000 * 1000 ≤ addG g col tm li k p col ∧ addG g col tm li k p col ≤ 1000000000000 + 1000000 * 1000 := by
        unfold addG
        rw [if_pos rfl]
        rcases Htm.out with e | e <;> rw [e] <;> omega
      have hm2 : IntKind.i64.wrap (addG g col tm li k p col + ty) = addG g col tm li (k + 1) p col := by
        rw [hnew]; exact IntWalk.i64_in _ (by omega)
      have hS : InVs vs b4 := ⟨p, hpv, by rw [e4]; rfl⟩
      have hnw : Below (v1.setCell ⟨b4, col, none⟩ (.int .i64 (addG g col tm li (k + 1) p col))).heap.size (v1.setCell ⟨b4, col, none⟩ (.int .i64 (addG g col tm li (k + 1) p col))) ((v1.setCell ⟨b4, col, none⟩ (.int .i64 (addG g col tm li (k + 1) p col))).alloc (.cells #[.int .i64 (p : Int), .int .i64 y] 76)).drew := ((Below.refl _ _).alloc (Nat.le_refl _) _).drew
      have Hro : Hid (RowsOwn w0.heap.size _ (.slice (some ⟨b, 0, none⟩) r cap) vs (fun i => rowF c (addG g col tm li (k + 1) i))) := Lib.hid ((hst.1.below hnw).congr fun i hi => by
        by_cases e : i = p
        · subst e
          simp only [if_true]
          rw [rowF_set]
          exact rowF_congr fun m hm => by
            by_cases e2 : m = col
            · subst e2; rw [if_pos rfl]
            · rw [if_neg e2]; unfold addG; rw [if_neg e2, if_neg e2]
        · simp only [if_neg e]
          exact rowF_congr fun m hm => by
            unfold addG
            rw [sumTo_succ hx]
            simp only
            rw [if_neg (show ¬ (p : Int) = (i : Int) by omega), Int.add_zero])
      have Hkp := Lib.hid ((hkp.trans (hst.2.mono (fun j _ e => by rw [e]; exact hS))).trans (Kept.of_below (S := InVs vs) hnw))
      clear hx hst hkp hS hrow ho hold e4 hnew hbd hbd2 hgp hval hlen hnw hty0 hty
      generalize addG g col tm li k p col = z0 at *
      go_wp2
      go_region
      go_wp2
      go_roundw
      case rel => exact ⟨k + 1, by omega, by go_num, Hro.out, Hkp.out⟩
      case measure => simp [intOf]; omega
    · have hge : ¬ (k : Int) < (na : Int) := by omega
      obtain rfl : k = na := by omega
      have Ho := Lib.hid ho
      have Hk := Lib.hid hkp
      clear ho hkp
      go_wp2
      go_end0
      exact ⟨rfl, Ho.out, Hk.out⟩

/-- what the k-th transition changes on a place -/
def chT (ts : List Tr) (p k : Nat) : Int := match ts[k]? with | some t => sumA t.out p - sumA t.inn p | none => 0
theorem chT_at {ts : List Tr} {k : Nat} {t : Tr} (h : ts[k]? = some t) (p : Nat) : chT ts p k = sumA t.out p - sumA t.inn p := by unfold chT; rw [h]
/-- the columns ahead of k -/
def chTo (ts : List Tr) (k p j : Nat) : Int := if j < k then chT ts p j else 0

theorem TrsAt.of_net {w : World} {vp : Value} {at_ : Option Addr} {n ct : Nat} {N : Nt} (h : NetAt w vp (.slice at_ n ct) N) {i : Nat} {t : Tr} (hi : N.trans[i]? = some t) :
    ∃ b off a1 c1 a2 c2 a3 c3, at_ = some ⟨b, off, none⟩ ∧ b < w.heap.size ∧ w.cell? ⟨b, off + i * 6, none⟩ = some (.string t.name) ∧ w.cell? ⟨b, off + i * 6 + 1, none⟩ = some (.int .i64 t.delay) ∧ w.cell? ⟨b, off + i * 6 + 2, none⟩ = some (.int .i64 t.prio) ∧
      w.cell? ⟨b, off + i * 6 + 3, none⟩ = some (.slice a1 t.inn.length c1) ∧ w.cell? ⟨b, off + i * 6 + 4, none⟩ = some (.slice a2 t.nt.length c2) ∧ w.cell? ⟨b, off + i * 6 + 5, none⟩ = some (.slice a3 t.out.length c3) ∧
      ArcsAt w (.slice a1 t.inn.length c1) t.inn ∧ ArcsAt w (.slice a2 t.nt.length c2) t.nt ∧ ArcsAt w (.slice a3 t.out.length c3) t.out := by
  obtain ⟨_, l, hl, ht⟩ := h
  exact ht.at_ (by rw [hl]; exact hi)

set_option maxRecDepth 100000 in
set_option maxHeartbeats 4000000 in
theorem of_any {w : World} {n : Nt} {ap at_ : Option Addr} {np nt cp ct : Nat} (hnp : np = n.places.length) (hnt : nt = n.trans.length) (h : NetAt w (.slice ap np cp) (.slice at_ nt ct) n) (hN : NOk n) :
    Calls Try.prog 17 #[.agg #[.slice ap np cp, .slice at_ nt ct]] w fun e w' => ∃ b, e = .returned (.slice (some ⟨b, 0, none⟩) np np) ∧ MatOwn w.heap.size w' (.slice (some ⟨b, 0, none⟩) np np) np nt (chT n.trans) ∧ Below w.heap.size w w' := by
  have hp1 : np ≤ 32 := by rw [hnp]; exact hN.pl
  have ht1 : nt ≤ 32 := by rw [hnt]; exact hN.tr
  obtain ⟨w0, hw0⟩ : ∃ w0, w0 = w.alloc (.cells #[.slice ap np cp, .slice at_ nt ct] 31) := ⟨_, rfl⟩
  have hb00 : Below w.heap.size w w0 := by rw [hw0]; exact (Below.refl _ w).alloc (Nat.le_refl _) _
  have Hbox := Lib.hid (show InBox w w0 (.slice ap np cp) (.slice at_ nt ct) by rw [hw0]; exact InBox.start _ _ _)
  have Hnet := Lib.hid (h.below hb00)
  have Hnp := Lib.hid hnp
  have Hnt := Lib.hid hnt
  have HN := Lib.hid hN
  have Hb00 := Lib.hid hb00
  have Hw0 := Lib.hid hw0
  have hz0 : w0.heap.size = w.heap.size + 1 := by rw [hw0]; simp
  have d0 := Hbox.out.c0
  have d1 := Hbox.out.c1
  clear h hnp hnt hN hb00
  go_enter Try.func17, Try.ntmps17
  go_wp2_with fail
  rw [← Hw0.out]
  refine (noughts_any np nt (by omega) (by omega) w0).mono ?_
  rintro e w1 ⟨b, rfl, ⟨vs, hvs, hrows⟩, hb⟩
  have Hvs := Lib.hid hvs
  have Hr0 := Lib.hid hrows
  have Hb0 := Lib.hid hb
  clear hvs hrows hb d0 d1 hw0
  have d1 := (Hbox.out.go Hb0.out).c1
  go_wp2
  clear d1
  go_loopw [16] (fun i wr => ∃ k : Nat, k ≤ nt ∧ i = .int .i64 k ∧ RowsOwn w0.heap.size wr (.slice (some ⟨b, 0, none⟩) np np) vs (fun i => rowF nt (chTo n.trans k i)) ∧ Below w0.heap.size w0 wr) (fun i _ => nt - (intOf i).toNat)
  case atStart => exact ⟨0, by omega, rfl, Hr0.out.congr fun i hi => rowF_congr fun j hj => by simp [chTo], Hb0.out⟩
  case round =>
    rename World => v1
    obtain ⟨k, hk, rfl, ho, hb⟩ := hrel
    by_cases hlt : k < nt
    · obtain ⟨t, ht⟩ := at_lt (l := n.trans) (k := k) (by rw [← Hnt.out]; exact hlt)
      have hlti : (k : Int) < (nt : Int) := by omega
      obtain ⟨b1, off, a1, c1, a2, c2, a3, c3, rfl, hbw, e0, e1, e2, e3, e4, e5, g1, g2, g3⟩ := TrsAt.of_net (Hnet.out.below hb) ht
      obtain ⟨_, _, _, _, _, _, _, _, q1, hbw0, _, _, _, q3, _, q5, G1, _, G3⟩ := TrsAt.of_net Hnet.out ht
      injection q1 with q1
      injection q1 with q1 q2 _
      subst q1 q2
      have q3' := hb.cell (p := ⟨b1, off + k * 6 + 3, none⟩) hbw0
      rw [e3, q3] at q3'
      injection q3' with q3'
      injection q3' with z1 _ z2
      subst z1 z2
      have q5' := hb.cell (p := ⟨b1, off + k * 6 + 5, none⟩) hbw0
      rw [e5, q5] at q5'
      injection q5' with q5'
      injection q5' with z1 _ z2
      subst z1 z2
      have hmem := List.mem_of_getElem? ht
      have hfo : Fits np t.out := fun a ha => by rw [Hnp.out]; exact (HN.out.out t hmem a ha).1
      have hfi : Fits np t.inn := fun a ha => by rw [Hnp.out]; exact (HN.out.inn t hmem a ha).1
      have hno : NumsOk t.out := fun a ha => by have := (HN.out.out t hmem a ha).2; omega
      have hni : NumsOk t.inn := fun a ha => by have := (HN.out.inn t hmem a ha).2; omega
      have hlen := HN.out.len t hmem
      obtain ⟨V, hV⟩ : ∃ V, V = v1.alloc (.cells #[.string t.name, .int .i64 t.delay, .int .i64 t.prio, .slice a1 t.inn.length c1, .slice a2 t.nt.length c2, .slice a3 t.out.length c3] 79) := ⟨_, rfl⟩
      have hbV : Below v1.heap.size v1 V := by rw [hV]; exact (Below.refl _ v1).alloc (Nat.le_refl _) _
      have hb2 : Below w0.heap.size w0 V := hb.trans (hbV.mono hb.size)
      have hzV : V.heap.size = v1.heap.size + 1 := by rw [hV]; simp
      have hadd1 := add_any (tm := 1) Hvs.out (ho.below hbV) hb2 rfl G3 hlt hfo hno (by omega) (by omega) (.inl rfl) (fun i hi => by unfold chTo; rw [if_neg (by omega)]; omega)
      have hadd2 : ∀ W : World, RowsOwn w0.heap.size W (.slice (some ⟨b, 0, none⟩) np np) vs (fun i => rowF nt (addG (chTo n.trans k) k 1 t.out t.out.length i)) → Below w0.heap.size w0 W → _ := fun W h1 h2 =>
        add_any (tm := -1) Hvs.out h1 h2 rfl G1 hlt hfi hni (by omega) (by omega) (.inr rfl) (fun i hi => by
          unfold addG chTo
          rw [if_pos rfl, if_neg (by omega)]
          have := sumTo_bd hno i t.out.length
          omega)
      have Hadd1 := Lib.hid hadd1
      have Hadd2 := Lib.hid hadd2
      have Ho := Lib.hid ho
      have Hb := Lib.hid hb
      have HbV := Lib.hid hbV
      have Hb2 := Lib.hid hb2
      have HV := Lib.hid hV
      have Ht := Lib.hid ht
      have t3 : V.cell? ⟨v1.heap.size, 3, none⟩ = some (.slice a1 t.inn.length c1) := by rw [hV]; go_simp
      have T3 := Lib.hid t3
      clear hadd1 hadd2 ho hb hbV hb2 hmem hfo hfi hno hni hlen g1 g2 g3 G1 G3 q3 q5 t3 ht
      simp only [hV] at Hadd1
      clear hV
      go_wp2_with fail
      refine Hadd1.out.mono ?_
      rw [← HV.out]
      rintro e w2 ⟨rfl, hr2, hk2⟩
      have t3 : w2.cell? ⟨v1.heap.size, 3, none⟩ = some (.slice a1 t.inn.length c1) := hk2.cell (by omega) (fun hS => by have := (Ho.out.inVs hS).2; omega) T3.out
      have hb3 : Below w0.heap.size w0 w2 := Hb2.out.trans (hk2.below (fun j hj => (Ho.out.inVs hj).1) Hb2.out.size)
      have Hadd3 := Lib.hid (Hadd2.out w2 hr2 hb3)
      have Hr2 := Lib.hid hr2
      have Hb3 := Lib.hid hb3
      have Hk2 := Lib.hid hk2
      clear hr2 hk2 hb3
      go_wp2_with fail
      refine Hadd3.out.mono ?_
      rintro e w3 ⟨rfl, hr3, hk3⟩
      have Hr3 : Hid (RowsOwn w0.heap.size w3 (.slice (some ⟨b, 0, none⟩) np np) vs (fun i => rowF nt (chTo n.trans (k + 1) i))) := Lib.hid (hr3.congr fun i hi => rowF_congr fun j hj => by
        unfold addG chTo
        by_cases e : j = k
        · subst e
          simp only [if_true]
          rw [if_neg (by omega), if_pos (by omega), chT_at Ht.out, sumTo_all (Nat.le_refl _), sumTo_all (Nat.le_refl _)]
          omega
        · simp only [if_neg e]
          by_cases e2 : j < k
          · rw [if_pos e2, if_pos (by omega)]
          · rw [if_neg e2, if_neg (by omega)])
      have Hb4 : Hid (Below w0.heap.size w0 w3) := Lib.hid (Hb3.out.trans (hk3.below (fun j hj => (Hr2.out.inVs hj).1) Hb3.out.size))
      clear hr3 hk3 t3
      go_wp2
      go_roundw
      case rel => exact ⟨k + 1, by omega, by go_num, Hr3.out, Hb4.out⟩
      case measure => simp [intOf]; omega
    · have hge : ¬ (k : Int) < (nt : Int) := by omega
      have Hm : Hid (MatOwn w.heap.size v1 (.slice (some ⟨b, 0, none⟩) np np) np nt (chT n.trans)) := Lib.hid ⟨vs, Hvs.out, (ho.congr fun i hi => rowF_congr fun j hj => by unfold chTo; rw [if_pos (by omega)]).mono (by omega)⟩
      have Hb : Hid (Below w.heap.size w v1) := Lib.hid (Hb00.out.trans (hb.mono (by omega)))
      clear ho hb
      go_wp2
      go_ret
      exact ⟨_, rfl, Hm.out, Hb.out⟩
end Go.Proofs.Ytpbbdnicafifpaa

/-! ## MxE -/
namespace Go.Proofs.Ytpbbdnicafifpaa
open Go.RowKit
set_option linter.unusedVariables false

/-- 'append(l, x)', l a slice of slices of ints of the call's own -/
theorem run_push_v {B n : Nat} {v : Value} {vs : List Value} (t ty : TypeId) (ht : Try.prog.underlying t = some (.slice 39)) (x : Value) (hx : x.oneCell' = true) {w : World} (h : w.ownsRow B 39 1 v n vs) (hl : n ≤ 1000000) (hB : B ≤ w.heap.size) :
    ∃ v' w', (Builtin.append_ #[t, t] ty #[v, .slice (some ⟨w.heap.size, 0, none⟩) 1 1]).run Try.prog (w.alloc (.cells #[x] 39)) = .ok v' w' ∧ w'.ownsRow B 39 1 v' (n + 1) (vs ++ [x]) ∧
      Kept (fun k => v.ownBlock = some k) w w' ∧ (v'.ownBlock = v.ownBlock ∨ ∃ k, v'.ownBlock = some k ∧ w.heap.size ≤ k) := by
  obtain ⟨i0, hi0, hz0, hz1, hz2⟩ := info_parts Try.infoIs
  obtain ⟨v', w', hr, h2, h3, _, h5⟩ := run_append_own_at (P := Try.prog) (w.alloc (.cells #[x] 39)) B t ty 39 i0 _ 1 24 ht hi0 hz0 hz1 hz2 rfl (by omega) v n vs (h.alloc _)
    ⟨w.heap.size, 0, none⟩ 1 1 [x] rfl (cell_newL w #[x] _) (by intro u hu; rw [List.mem_singleton] at hu; rw [hu]; exact hx) (by unfold maxLen; omega) (by omega) (by simp; omega)
  refine ⟨v', w', hr, h2, ((Kept.refl _ w).alloc _).grown h3 (fun _ h => h), ?_⟩
  rcases h5 with e | e
  · exact .inl e
  · exact .inr ⟨_, e, by simp⟩

theorem oneCell_slice (a : Option Addr) (n c : Nat) : (Value.slice a n c).oneCell' = true := rfl

set_option maxRecDepth 100000 in
set_option maxHeartbeats 4000000 in
theorem change_any {w : World} {n : Nt} {ap at_ : Option Addr} {np nt cp ct : Nat} (hnp : np = n.places.length) (hnt : nt = n.trans.length) (h : NetAt w (.slice ap np cp) (.slice at_ nt ct) n) (hN : NOk n) :
    Calls Try.prog 20 #[.agg #[.slice ap np cp, .slice at_ nt ct]] w fun e w' => ∃ a c, e = .returned (.slice a np c) ∧ MatOwn w.heap.size w' (.slice a np c) np nt (chT n.trans) ∧ Below w.heap.size w w' := by
  have hp1 : np ≤ 32 := by rw [hnp]; exact hN.pl
  have ht1 : nt ≤ 32 := by rw [hnt]; exact hN.tr
  obtain ⟨w0, hw0⟩ : ∃ w0, w0 = w.alloc (.cells #[.slice ap np cp, .slice at_ nt ct] 31) := ⟨_, rfl⟩
  have hb00 : Below w.heap.size w w0 := by rw [hw0]; exact (Below.refl _ w).alloc (Nat.le_refl _) _
  have Hbox := Lib.hid (show InBox w w0 (.slice ap np cp) (.slice at_ nt ct) by rw [hw0]; exact InBox.start _ _ _)
  have Hnet := Lib.hid (h.below hb00)
  have Hnp := Lib.hid hnp
  have Hnt := Lib.hid hnt
  have HN := Lib.hid hN
  have Hb00 := Lib.hid hb00
  have Hw0 := Lib.hid hw0
  have hz0 : w0.heap.size = w.heap.size + 1 := by rw [hw0]; simp
  clear h hnp hnt hN hb00
  go_enter Try.func20, Try.ntmps20
  go_wp2
  rw [← Hw0.out]
  clear hw0
  go_loopw [3, 4] (fun v i wr => ∃ k : Nat, k ≤ np ∧ i = .int .i64 k ∧ (∃ a c, v = .slice a k c) ∧ (∃ vs : List Value, vs.length = k ∧ RowsOwn w0.heap.size wr v vs (fun i => rowF nt (chT n.trans i))) ∧ Below w0.heap.size w0 wr) (fun _ i _ => np - (intOf i).toNat)
  case atStart => exact ⟨0, by omega, rfl, ⟨_, _, rfl⟩, ⟨[], rfl, RowsOwn.nil _ _ _⟩, Below.refl _ _⟩
  case round =>
    rename World => v1
    obtain ⟨k, hk, rfl, ⟨av, cv, rfl⟩, ⟨vs, hvs, ho⟩, hb⟩ := hrel
    have d0 := (Hbox.out.go hb).c0
    by_cases hlt : k < np
    · have hlti : (k : Int) < (np : Int) := by omega
      have Hvs := Lib.hid hvs
      have Ho := Lib.hid ho
      have Hb := Lib.hid hb
      clear hvs ho hb
      go_wp2
      clear d0
      go_loopw [5, 6] (fun v i wr => ∃ j : Nat, j ≤ nt ∧ i = .int .i64 j ∧ (∃ a c, v = .slice a j c) ∧ OwnI v1.heap.size wr v (rowF j (chT n.trans k)) ∧ Below v1.heap.size v1 wr) (fun _ i _ => nt - (intOf i).toNat)
      case atStart => exact ⟨0, by omega, rfl, ⟨_, _, rfl⟩, World.ownsRow_nil _ _ _ _, Below.refl _ _⟩
      case round =>
        rename World => v2
        obtain ⟨j, hj, rfl, ⟨ar, cr, rfl⟩, hor, hbr⟩ := hrel
        have hb2 : Below w0.heap.size w0 v2 := Hb.out.trans (hbr.mono Hb.out.size)
        have d1 := (Hbox.out.go hb2).c1
        by_cases hltj : j < nt
        · have hltji : (j : Int) < (nt : Int) := by omega
          obtain ⟨t, ht⟩ := at_lt (l := n.trans) (k := j) (by rw [← Hnt.out]; exact hltj)
          obtain ⟨b1, off, a1, c1, a2, c2, a3, c3, rfl, hbw, e0, e1, e2, e3, e4, e5, g1, g2, g3⟩ := TrsAt.of_net (Hnet.out.below hb2) ht
          have hmem := List.mem_of_getElem? ht
          have hno : NumsOk t.out := fun a ha => by have := (HN.out.out t hmem a ha).2; omega
          have hni : NumsOk t.inn := fun a ha => by have := (HN.out.inn t hmem a ha).2; omega
          have hlen := HN.out.len t hmem
          obtain ⟨no, hno1⟩ : ∃ x, x = t.out.length := ⟨_, rfl⟩
          obtain ⟨ni, hni1⟩ : ∃ x, x = t.inn.length := ⟨_, rfl⟩
          rw [← hno1] at e5 g3
          rw [← hni1] at e3 g1
          have hnol : no ≤ 8 := by omega
          have hnil : ni ≤ 8 := by omega
          have Hno1 := Lib.hid hno1
          have Hni1 := Lib.hid hni1
          have Hno := Lib.hid hno
          have Hni := Lib.hid hni
          have Hor := Lib.hid hor
          have Hbr := Lib.hid hbr
          have Ht := Lib.hid ht
          have G1 := Lib.hid g1
          have G3 := Lib.hid g3
          clear hno hni hor hbr hmem hlen ht e0 e1 e2 e4 g1 g2 g3 hno1 hni1 hb2
          go_wp2
          go_loop [7, 8] (fun z i => ∃ m : Nat, m ≤ no ∧ i = .int .i64 m ∧ z = .int .i64 (sumTo t.out k m)) (fun _ i => no - (intOf i).toNat)
          case atStart => exact ⟨0, by omega, rfl, rfl⟩
          case round =>
            obtain ⟨m, hm, rfl, rfl⟩ := hrel
            by_cases hltm : m < no
            · have hltmi : (m : Int) < (no : Int) := by omega
              obtain ⟨⟨x, y⟩, hx⟩ := at_lt (l := t.out) (k := m) (by rw [← Hno1.out]; exact hltm)
              obtain ⟨b4, o4, rfl, hb4, q0, q1⟩ := ArcsAt.at_ G3.out hx
              have hs0 := sumTo_bd Hno.out k m
              have hs1 := sumTo_bd Hno.out k (m + 1)
              have hlo : t.out.length ≤ 8 := by rw [← Hno1.out]; exact hnol
              have hst := sumTo_succ hx k
              simp only at hst
              by_cases hxk : x = (k : Int)
              · rw [if_pos hxk] at hst
                have hbe : (x == (k : Int)) = true := by simp [hxk]
                have h1 : -9223372036854775808 ≤ sumTo t.out k m + y := by omega
                have h2 : sumTo t.out k m + y ≤ 9223372036854775807 := by omega
                have Hst := Lib.hid hst
                clear hst hs0 hs1 hx hxk hlo
                go_wp2
                go_round
                case rel => exact ⟨m + 1, by omega, by go_num, by rw [Hst.out]⟩
                case measure => simp [intOf]; omega
              · rw [if_neg hxk, Int.add_zero] at hst
                have hbe : (x == (k : Int)) = false := by simpa using hxk
                have Hst := Lib.hid hst
                clear hst hs0 hs1 hx hxk hlo
                go_wp2
                go_round
                case rel => exact ⟨m + 1, by omega, by go_num, by rw [Hst.out]⟩
                case measure => simp [intOf]; omega
            · have hgem : ¬ (m : Int) < (no : Int) := by omega
              have Hall := Lib.hid (sumTo_all (l := t.out) (k := m) (by rw [← Hno1.out]; omega) k)
              go_wp2
              rw [Hall.out]
              go_loop [7, 9] (fun z i => ∃ m : Nat, m ≤ ni ∧ i = .int .i64 m ∧ z = .int .i64 (sumA t.out k - sumTo t.inn k m)) (fun _ i => ni - (intOf i).toNat)
              case atStart => exact ⟨0, by omega, rfl, by rw [sumTo_zero, Int.sub_zero]⟩
              case round =>
                obtain ⟨q, hq, rfl, rfl⟩ := hrel
                have hA := sumA_bd Hno.out k
                have hs0 := sumTo_bd Hni.out k q
                have hs1 := sumTo_bd Hni.out k (q + 1)
                have hlo : t.out.length ≤ 8 := by rw [← Hno1.out]; exact hnol
                have hli : t.inn.length ≤ 8 := by rw [← Hni1.out]; exact hnil
                by_cases hltq : q < ni
                · have hltqi : (q : Int) < (ni : Int) := by omega
                  obtain ⟨⟨x, y⟩, hx⟩ := at_lt (l := t.inn) (k := q) (by rw [← Hni1.out]; exact hltq)
                  obtain ⟨b4, o4, rfl, hb4, q0, q1⟩ := ArcsAt.at_ G1.out hx
                  have hst := sumTo_succ hx k
                  simp only at hst
                  by_cases hxk : x = (k : Int)
                  · rw [if_pos hxk] at hst
                    have hbe : (x == (k : Int)) = true := by simp [hxk]
                    have h1 : -9223372036854775808 ≤ sumA t.out k - sumTo t.inn k q - y := by omega
                    have h2 : sumA t.out k - sumTo t.inn k q - y ≤ 9223372036854775807 := by omega
                    have Hst : Hid (sumA t.out k - sumTo t.inn k (q + 1) = sumA t.out k - sumTo t.inn k q - y) := Lib.hid (by omega)
                    clear hst hs0 hs1 hx hxk hlo hli hA
                    go_wp2
                    go_round
                    case rel => exact ⟨q + 1, by omega, by go_num, by rw [Hst.out]⟩
                    case measure => simp [intOf]; omega
                  · rw [if_neg hxk, Int.add_zero] at hst
                    have hbe : (x == (k : Int)) = false := by simpa using hxk
                    have Hst := Lib.hid hst
                    clear hst hs0 hs1 hx hxk hlo hli hA
                    go_wp2
                    go_round
                    case rel => exact ⟨q + 1, by omega, by go_num, by rw [Hst.out]⟩
                    case measure => simp [intOf]; omega
                · have hgeq : ¬ (q : Int) < (ni : Int) := by omega
                  have hall : sumA t.out k - sumTo t.inn k q = chT n.trans k j := by rw [sumTo_all (by rw [← Hni1.out]; omega), chT_at Ht.out]
                  obtain ⟨v', w', hr, ho2, hk2, hv2⟩ := run_push_i 39 (sumA t.out k - sumTo t.inn k q) Hor.out (by rw [rowF_len]; omega) Hbr.out.size
                  rw [hall, ← rowF_succ] at ho2
                  have hform := IntsAt.form ho2.at_
                  rw [rowF_len] at hform
                  have Ho2 := Lib.hid ho2
                  have Hform := Lib.hid hform
                  have Hbr2 : Hid (Below v1.heap.size v1 w') := Lib.hid (Hbr.out.trans (hk2.below (fun i hi => (World.ownsRow.lt Hor.out i hi).1) Hbr.out.size))
                  clear hall hs0 hs1 hA hlo hli ho2 hk2 hv2 hform
                  go_wp2_with (at_builtin; refine wpList_append_eq rfl (.tmp 94) (.tmp 96) 39 rfl rfl rfl hr ?_)
                  go_roundw
                  case rel => exact ⟨j + 1, by omega, by go_num, Hform.out, Ho2.out, Hbr2.out⟩
                  case measure => simp [intOf]; omega
        · have hgej : ¬ (j : Int) < (nt : Int) := by omega
          obtain rfl : j = nt := by omega
          obtain ⟨v', w', hr, ho2, hk2, hv2⟩ := run_push_v 33 33 Try.underlying33 (.slice ar j cr) rfl (Ho.out.below hbr).out (by rw [Hvs.out]; omega) (Nat.le_trans Hb.out.size hbr.size)
          have hpush := Ho.out.push Hb.out.size hbr hor ho2 hk2 hv2
          have hform := own_form ho2
          rw [Hvs.out] at hform
          have Hp := Lib.hid (hpush.congr (G := fun i => rowF j (chT n.trans i)) fun i hi => by
            split
            · rename_i e; rw [e, Hvs.out]
            · rfl)
          have Hform := Lib.hid hform
          have Hb2 : Hid (Below w0.heap.size w0 w') := Lib.hid (hb2.trans (hk2.below (fun i hi => (World.ownsRow.lt Ho.out.out i hi).1) hb2.size))
          have Hlen : Hid ((vs ++ [Value.slice ar j cr]).length = k + 1) := Lib.hid (by simp [Hvs.out])
          clear hpush hform ho2 hk2 hv2 hb2 hor hbr
          go_wp2_with (at_builtin; refine wpList_append_eq rfl (.tmp 98) (.tmp 100) 33 rfl rfl rfl hr ?_)
          go_roundw
          case rel => exact ⟨k + 1, by omega, by go_num, Hform.out, ⟨_, Hlen.out, Hp.out⟩, Hb2.out⟩
          case measure => simp [intOf]; omega
    · have hge : ¬ (k : Int) < (np : Int) := by omega
      obtain rfl : k = np := by omega
      have Hm : Hid (MatOwn w.heap.size v1 (.slice av k cv) k nt (chT n.trans)) := Lib.hid ⟨vs, hvs, ho.mono (by omega)⟩
      have Hb : Hid (Below w.heap.size w v1) := Lib.hid (Hb00.out.trans (hb.mono (by omega)))
      clear ho hb hvs
      go_wp2
      go_ret
      exact ⟨_, _, rfl, Hm.out, Hb.out⟩
end Go.Proofs.Ytpbbdnicafifpaa

/-! ## MxF -/
namespace Go.Proofs.Ytpbbdnicafifpaa
open Go.RowKit
set_option linter.unusedVariables false

set_option maxRecDepth 100000 in
set_option maxHeartbeats 400000 in
theorem sints_any {w : World} {a b : Option Addr} {n ca cb : Nat} {xs : List Int} (hn : n = xs.length) (ha : IntsAt w (.slice a n ca) xs) (hb : IntsAt w (.slice b n cb) xs) :
    Calls Try.prog 47 #[.slice a n ca, .slice b n cb] w fun e w' => e = .returned (.bool true) ∧ Below w.heap.size w w' := by
  have hx1 : n ≤ 9223372036854775807 := by have := RowAt.max ha; omega
  have Ha := Lib.hid ha
  have Hb := Lib.hid hb
  have Hn := Lib.hid hn
  clear ha hb hn
  go_enter Try.func47, Try.ntmps47
  go_wp2
  go_loopw [5] (fun i wr => ∃ k : Nat, k ≤ n ∧ i = .int .i64 k ∧ Below w.heap.size w wr) (fun i _ => n - (intOf i).toNat)
  case atStart => exact ⟨0, Nat.zero_le _, rfl, Below.refl _ _⟩
  case round =>
    rename World => v1
    obtain ⟨k, hk, rfl, hw⟩ := hrel
    by_cases hlt : k < n
    · obtain ⟨x, hx⟩ := at_lt (l := xs) (k := k) (by rw [← Hn.out]; exact hlt)
      have hlti : (k : Int) < (n : Int) := by omega
      obtain ⟨b1, o1, rfl, hb1, e1⟩ := IntsAt.at_ (Ha.out.below hw) hx
      obtain ⟨b2, o2, rfl, hb2, e2⟩ := IntsAt.at_ (Hb.out.below hw) hx
      have Hw := Lib.hid hw
      clear hx hw
      go_wp2
      go_quiet (fail)
      go_wp2
      go_roundw
      case rel => exact ⟨k + 1, by omega, by go_num, below_drews Hw.out _⟩
      case measure => simp [intOf]; omega
    · have hge : ¬ (k : Int) < (n : Int) := by omega
      have Hw := Lib.hid hw
      clear hw
      go_wp2
      go_ret
      exact ⟨rfl, Hw.out⟩

set_option maxRecDepth 100000 in
set_option maxHeartbeats 1000000 in
theorem smat_any {w : World} {a b : Option Addr} {r c ca cb : Nat} {g : Nat → Nat → Int} (ha : MatAt w (.slice a r ca) r c g) (hb : MatAt w (.slice b r cb) r c g) :
    Calls Try.prog 19 #[.slice a r ca, .slice b r cb] w fun e w' => e = .returned (.bool true) ∧ Below w.heap.size w w' := by
  have hx1 := ha.max
  have Ha := Lib.hid ha
  have Hb := Lib.hid hb
  clear ha hb
  go_enter Try.func19, Try.ntmps19
  go_wp2
  go_loopw [5] (fun i wr => ∃ k : Nat, k ≤ r ∧ i = .int .i64 k ∧ Below w.heap.size w wr) (fun i _ => r - (intOf i).toNat)
  case atStart => exact ⟨0, Nat.zero_le _, rfl, Below.refl _ _⟩
  case round =>
    rename World => v1
    obtain ⟨k, hk, rfl, hw⟩ := hrel
    by_cases hlt : k < r
    · have hlti : (k : Int) < (r : Int) := by omega
      obtain ⟨b1, o1, a3, c3, rfl, hb1, e1, g1⟩ := (Ha.out.below hw).row hlt
      obtain ⟨b2, o2, a4, c4, rfl, hb2, e2, g2⟩ := (Hb.out.below hw).row hlt
      have Hs : Hid (∀ p : NewBy v1, Calls Try.prog 47 #[.slice a3 c c3, .slice a4 c c4] p.to fun e w' => e = .returned (.bool true) ∧ Below p.to.heap.size p.to w') := Lib.hid fun p => sints_any (rowF_len _ _).symm (g1.below p.below) (g2.below p.below)
      have f1 := NewBy.cell hb1 e1
      have f2 := NewBy.cell hb2 e2
      have Hw := Lib.hid hw
      clear hw g1 g2 e1 e2
      go_wp2
      refine wp_region_new (by kernel_rfl) (by kernel_rfl) ?_
      repeat (go_big_quiet_step (first | (go_at_call 47; exact Calls.new_of (Hs.out _))))
      refine wpQuiet_nil ?_
      intro wz hzz
      obtain ⟨pz, hzz⟩ := hzz
      subst hzz
      have hb9 := pz.below
      clear f1 f2 Hs
      revert hb9
      generalize pz.to = W9
      intro hb9
      have Hb9 := Lib.hid (Hw.out.trans (hb9.mono Hw.out.size))
      clear hb9
      go_wp2
      go_roundw
      case rel => exact ⟨k + 1, by omega, by go_num, Hb9.out⟩
      case measure => simp [intOf]; omega
    · have hge : ¬ (k : Int) < (r : Int) := by omega
      have Hw := Lib.hid hw
      clear hw
      go_wp2
      go_ret
      exact ⟨rfl, Hw.out⟩

def netX : Nt := ⟨[⟨{ data := #[] }, 0⟩, ⟨{ data := #[] }, 0⟩], [⟨{ data := #[] }, 0, 0, [(0, 1)], [], [(1, 2)]⟩]⟩
theorem netX_check : checkN (namedN netX) = 0 := by decide +kernel
theorem netX_nok : NOk (namedN netX) := checkN_nok netX_check
theorem netX_0 : chT (namedN netX).trans 0 0 = -1 := by decide +kernel
theorem netX_1 : chT (namedN netX).trans 1 0 = 2 := by decide +kernel

/-- the example's net, laid cell by cell -/
def worldX (w : World) : World := (((w.alloc (.cells #[.string { data := #[] }, .int .i64 0, .string { data := #[] }, .int .i64 0] 57)).alloc (.cells #[.int .i64 0, .int .i64 1] 76)).alloc (.cells #[.int .i64 1, .int .i64 2] 76)).alloc (.cells #[.string { data := #[] }, .int .i64 0, .int .i64 0, .slice (some ⟨w.heap.size + 1, 0, none⟩) 1 1, .slice none 0 0, .slice (some ⟨w.heap.size + 2, 0, none⟩) 1 1] 79)
theorem worldX_below (w : World) : Below w.heap.size w (worldX w) := ((((Below.refl _ w).alloc (Nat.le_refl _) _).alloc (by simp) _).alloc (by simp; omega) _).alloc (by simp; omega) _
theorem netX_at (w : World) : NetAt (worldX w) (.slice (some ⟨w.heap.size, 0, none⟩) 2 2) (.slice (some ⟨w.heap.size + 3, 0, none⟩) 1 1) netX := by
  have k0 : CellsAre (worldX w) w.heap.size 0 [.string { data := #[] }, .int .i64 0, .string { data := #[] }, .int .i64 0] := ⟨by unfold worldX; go_simp, by unfold worldX; go_simp, by unfold worldX; go_simp, by unfold worldX; go_simp, trivial⟩
  have k1 : CellsAre (worldX w) (w.heap.size + 1) 0 [.int .i64 0, .int .i64 1] := ⟨by unfold worldX; go_simp, by unfold worldX; go_simp, trivial⟩
  have k2 : CellsAre (worldX w) (w.heap.size + 2) 0 [.int .i64 1, .int .i64 2] := ⟨by unfold worldX; go_simp, by unfold worldX; go_simp, trivial⟩
  have k3 : CellsAre (worldX w) (w.heap.size + 3) 0 [.string { data := #[] }, .int .i64 0, .int .i64 0, .slice (some ⟨w.heap.size + 1, 0, none⟩) 1 1, .slice none 0 0, .slice (some ⟨w.heap.size + 2, 0, none⟩) 1 1] := ⟨by unfold worldX; go_simp, by unfold worldX; go_simp, by unfold worldX; go_simp, by unfold worldX; go_simp, by unfold worldX; go_simp, by unfold worldX; go_simp, trivial⟩
  have hsz : (worldX w).heap.size = w.heap.size + 4 := by unfold worldX; simp
  refine netAt_mk (k0.row (by omega) rfl (Nat.le_refl _) (by omega)) [(⟨{ data := #[] }, 0, 0, [(0, 1)], [], [(1, 2)]⟩, .slice (some ⟨w.heap.size + 1, 0, none⟩) 1 1, .slice none 0 0, .slice (some ⟨w.heap.size + 2, 0, none⟩) 1 1)] rfl (k3.row (by omega) rfl (Nat.le_refl _) (by omega)) ?_
  intro x hx
  rw [List.mem_singleton] at hx
  subst hx
  exact ⟨k1.row (by omega) rfl (Nat.le_refl _) (by omega), arcsAt_nil _, k2.row (by omega) rfl (Nat.le_refl _) (by omega)⟩

set_option maxRecDepth 100000 in
set_option maxHeartbeats 4000000 in
theorem awake11 (w : World) : Calls Try.prog 14 #[] w fun e w' => e = .returned (.bool true) ∧ Below w.heap.size w w' := by
  have hb0 := worldX_below w
  have hn := named_any (n := netX) rfl rfl (by decide) (by decide) (netX_at w)
  have Hb0 := Lib.hid hb0
  have Hn := Lib.hid hn
  simp only [worldX] at Hb0 Hn
  clear hb0 hn
  go_enter Try.func14, Try.ntmps14
  go_wp2_with fail
  refine Hn.out.mono ?_
  rintro e w1 ⟨vp, vt, rfl, hnet, hb⟩
  obtain ⟨a1, n1, c1, a2, n2, c2, rfl, rfl, h1, h2⟩ := hnet.form2
  have Hb1 := Lib.hid (Hb0.out.trans (hb.mono Hb0.out.size))
  have hof := of_any h1 h2 hnet netX_nok
  have h1' : n1 = 2 := h1
  have h2' : n2 = 1 := h2
  subst h1' h2'
  have Hof := Lib.hid hof
  clear hof h1 h2 hnet hb
  go_wp2_with fail
  refine Hof.out.mono ?_
  rintro e w2 ⟨b, rfl, hm, hb⟩
  have Hb2 := Lib.hid (Hb1.out.trans (hb.mono Hb1.out.size))
  obtain ⟨b1, o1, ar, cr, e1, hl1, r1, i1⟩ := hm.at_.row (i := 0) (by omega)
  obtain ⟨b2, o2, as_, cs, e2, hl2, r2, i2⟩ := hm.at_.row (i := 1) (by omega)
  injection e1 with e1
  injection e1 with e1 e1' _
  injection e2 with e2
  injection e2 with e2 e2' _
  subst e1 e1' e2 e2'
  obtain ⟨b3, o3, rfl, hl3, c3⟩ := rowAt_at i1 (k := 0) (by omega)
  obtain ⟨b4, o4, rfl, hl4, c4⟩ := rowAt_at i2 (k := 0) (by omega)
  rw [netX_0] at c3
  rw [netX_1] at c4
  simp only [Nat.add_zero, Nat.zero_add] at r1 r2 c3 c4
  clear hm hb i1 i2
  go_wp2
  go_ret
  exact ⟨rfl, Hb2.out⟩

/-- numbers as a matrix, row by row -/
def sqG (l : List Int) (c i k : Nat) : Int := l.getD (i * c + k) 0
def sqTo (l : List Int) (c i k j : Nat) : Int := if j < k then sqG l c i j else 0

set_option maxRecDepth 100000 in
set_option maxHeartbeats 4000000 in
theorem square_any {w : World} {a : Option Addr} {n cap : Nat} {l : List Int} {rw_ cl : Int} (hn : n = l.length) (h : IntsAt w (.slice a n cap) l) (hr0 : 0 ≤ rw_) (hr1 : rw_ ≤ 255) (hc0 : 0 ≤ cl) (hc1 : cl ≤ 255) (hn2 : n ≤ 1000000) (r c : Nat) (hr : (r : Int) = rw_ % 5) (hc : (c : Int) = cl % 5) :
    Calls Try.prog 21 #[.slice a n cap, .int .u8 rw_, .int .u8 cl] w fun e w' => ∃ a' c', e = .returned (.slice a' r c') ∧ MatOwn w.heap.size w' (.slice a' r c') r c (sqG l c) ∧ Below w.heap.size w w' := by
  have hr5 : r < 5 := by omega
  have hc5 : c < 5 := by omega
  have Hn := Lib.hid hn
  have H := Lib.hid h
  have hr' : rw_ % 5 = (r : Int) := hr.symm
  have hc' : cl % 5 = (c : Int) := hc.symm
  clear hn h hr hc
  go_enter Try.func21, Try.ntmps21
  go_wp2
  go_loopw [7, 9] (fun v i wr => ∃ k : Nat, k ≤ r ∧ i = .int .i64 k ∧ (∃ a c, v = .slice a k c) ∧ (∃ vs : List Value, vs.length = k ∧ RowsOwn w.heap.size wr v vs (fun i => rowF c (sqG l c i))) ∧ Below w.heap.size w wr) (fun _ i _ => r - (intOf i).toNat)
  case atStart => exact ⟨0, by omega, rfl, ⟨_, _, rfl⟩, ⟨[], rfl, RowsOwn.nil _ _ _⟩, Below.refl _ _⟩
  case round =>
    rename World => v1
    obtain ⟨k, hk, rfl, ⟨av, cv, rfl⟩, ⟨vs, hvs, ho⟩, hb⟩ := hrel
    by_cases hlt : k < r
    · have hlti : (k : Int) < (r : Int) := by omega
      obtain ⟨w2, hmk2, ho2, hb2⟩ := run_make_ints c (by omega) v1
      have Hvs := Lib.hid hvs
      have Ho := Lib.hid ho
      have Hb := Lib.hid hb
      have Ho2 := Lib.hid ho2
      have Hb2 := Lib.hid hb2
      clear hvs ho hb ho2 hb2
      go_wp2
      clear hmk2
      go_loopw [11] (fun i wr => ∃ j : Nat, j ≤ c ∧ i = .int .i64 j ∧ OwnI v1.heap.size wr (.slice (some ⟨v1.heap.size, 0, none⟩) c c) (rowF c (sqTo l c k j)) ∧ Below v1.heap.size v1 wr) (fun i _ => c - (intOf i).toNat)
      case atStart => exact ⟨0, by omega, rfl, by have := Ho2.out; rw [rowF_zero] at this; rwa [rowF_congr (g := sqTo l c k 0) fun j hj => by simp [sqTo]] at this, Hb2.out⟩
      case round =>
        rename World => v2
        obtain ⟨j, hj, rfl, hor, hbr⟩ := hrel
        by_cases hltj : j < c
        · have hltji : (j : Int) < (c : Int) := by omega
          obtain ⟨mm, hmm⟩ : ∃ mm, mm = k * c := ⟨_, rfl⟩
          have hmi : (k : Int) * (c : Int) = (mm : Int) := by rw [hmm]; exact (Int.natCast_mul k c).symm
          have hmb : mm ≤ 16 := by rw [hmm]; exact Nat.mul_le_mul (show k ≤ 4 by omega) (show c ≤ 4 by omega)
          have Hmm := Lib.hid hmm
          have Hbr := Lib.hid hbr
          have hos := hor.lt
          have c0 := hor.cell (rowF_get (sqTo l c k j) hltj)
          have f0 := hor.froz j
          by_cases hin : mm + j < n
          · have hini : (mm : Int) + (j : Int) < (n : Int) := by omega
            obtain ⟨x, hx⟩ := at_lt (l := l) (k := mm + j) (by rw [← Hn.out]; exact hin)
            obtain ⟨b4, o4, rfl, hb4, e4⟩ := IntsAt.at_ (H.out.below (Hb.out.trans (hbr.mono Hb.out.size))) hx
            have hst := hor.set j x (by rw [rowF_len]; exact hltj)
            rw [rowF_set] at hst
            have hg : sqG l c k j = x := by unfold sqG; rw [← hmm]; simp [List.getD, hx]
            have Hst := Lib.hid (show OwnI v1.heap.size (v2.setCell ⟨v1.heap.size, j, none⟩ (.int .i64 x)) (.slice (some ⟨v1.heap.size, 0, none⟩) c c) (rowF c (sqTo l c k (j + 1))) by
              have := hst.1
              rwa [rowF_congr (g := sqTo l c k (j + 1)) fun m hm => by
                unfold sqTo
                by_cases e : m = j
                · subst e; rw [if_pos rfl, if_pos (by omega), hg]
                · rw [if_neg e]
                  by_cases e2 : m < j
                  · rw [if_pos e2, if_pos (by omega)]
                  · rw [if_neg e2, if_neg (by omega)]] at this)
            have Hk := Lib.hid (Hbr.out.trans (hst.2.below (fun i e => by omega) Hbr.out.size))
            clear hst hg hx hmm hor hbr
            go_wp2
            go_roundw
            case rel => exact ⟨j + 1, by omega, by go_num, Hst.out, Hk.out⟩
            case measure => simp [intOf]; omega
          · have hini : ¬ (mm : Int) + (j : Int) < (n : Int) := by omega
            have hg : sqG l c k j = 0 := by unfold sqG; rw [← hmm]; simp [List.getD, List.getElem?_eq_none (show l.length ≤ mm + j by rw [← Hn.out]; omega)]
            have Hst := Lib.hid (show OwnI v1.heap.size v2 (.slice (some ⟨v1.heap.size, 0, none⟩) c c) (rowF c (sqTo l c k (j + 1))) by
              rwa [rowF_congr (g := sqTo l c k (j + 1)) fun m hm => by
                unfold sqTo
                by_cases e : m = j
                · subst e; rw [if_neg (by omega), if_pos (by omega), hg]
                · by_cases e2 : m < j
                  · rw [if_pos e2, if_pos (by omega)]
                  · rw [if_neg e2, if_neg (by omega)]] at hor)
            clear hg hmm hor hbr
            go_wp2
            go_roundw
            case rel => exact ⟨j + 1, by omega, by go_num, Hst.out, Hbr.out⟩
            case measure => simp [intOf]; omega
        · have hgej : ¬ (j : Int) < (c : Int) := by omega
          have hb2 : Below w.heap.size w v2 := Hb.out.trans (hbr.mono Hb.out.size)
          replace hor : OwnI v1.heap.size v2 (.slice (some ⟨v1.heap.size, 0, none⟩) c c) (rowF c (sqG l c k)) := by
            rwa [rowF_congr (g := sqG l c k) fun m hm => by unfold sqTo; rw [if_pos (by omega)]] at hor
          obtain ⟨v', w', hr, ho2, hk2, hv2⟩ := run_push_v 34 34 Try.underlying34 (.slice (some ⟨v1.heap.size, 0, none⟩) c c) rfl (Ho.out.below hbr).out (by rw [Hvs.out]; omega) (Nat.le_trans Hb.out.size hbr.size)
          have hpush := Ho.out.push Hb.out.size hbr hor ho2 hk2 hv2
          have hform := own_form ho2
          rw [Hvs.out] at hform
          have Hp := Lib.hid (hpush.congr (G := fun i => rowF c (sqG l c i)) fun i hi => by
            split
            · rename_i e; rw [e, Hvs.out]
            · rfl)
          have Hform := Lib.hid hform
          have Hb3 : Hid (Below w.heap.size w w') := Lib.hid (hb2.trans (hk2.below (fun i hi => (World.ownsRow.lt Ho.out.out i hi).1) hb2.size))
          have Hlen : Hid ((vs ++ [Value.slice (some ⟨v1.heap.size, 0, none⟩) c c]).length = k + 1) := Lib.hid (by simp [Hvs.out])
          clear hpush hform ho2 hk2 hv2 hb2 hor hbr
          go_wp2_with (at_builtin; refine wpList_append_eq rfl (.tmp 48) (.tmp 50) 34 rfl rfl rfl hr ?_)
          go_roundw
          case rel => exact ⟨k + 1, by omega, by go_num, Hform.out, ⟨_, Hlen.out, Hp.out⟩, Hb3.out⟩
          case measure => simp [intOf]; omega
    · have hge : ¬ (k : Int) < (r : Int) := by omega
      obtain rfl : k = r := by omega
      have Hm : Hid (MatOwn w.heap.size v1 (.slice av k cv) k c (sqG l c)) := Lib.hid ⟨vs, hvs, ho⟩
      have Hb := Lib.hid hb
      clear ho hb hvs
      go_wp2
      go_ret
      exact ⟨_, _, rfl, Hm.out, Hb.out⟩
end Go.Proofs.Ytpbbdnicafifpaa
