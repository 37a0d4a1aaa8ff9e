/-
  What the document's Named comes to: a net with names by numbers.
  Conditions: none beyond each theorem's own.
-/
import Derived.Test.YtpbbdnicafifpaaMakeW
import Derived.Test.YtpbbdnicafifpaaNetW
namespace Go.Proofs.Ytpbbdnicafifpaa
open Go.RowKit
set_option linter.unusedVariables false

/-- a name by a number -/
def nm2 (c : UInt8) (k : Nat) : ByteArray := bs [c, UInt8.ofNat (97 + k % 26), UInt8.ofNat (97 + k / 26)]
def rnP (k : Nat) (p : Pl) : Pl := ⟨nm2 112 k, p.tok⟩
def rnT (k : Nat) (t : Tr) : Tr := ⟨nm2 116 k, t.delay, t.prio, t.inn, t.nt, t.out⟩
def rnX (k : Nat) (x : Tr × Value × Value × Value) : Tr × Value × Value × Value := (rnT k x.1, x.2)
/-- the first k, named -/
def plsN (l : List Pl) (k : Nat) : List Pl := (l.take k).mapIdx rnP
def trsN (l : List (Tr × Value × Value × Value)) (k : Nat) : List (Tr × Value × Value × Value) := (l.take k).mapIdx rnX
def namedN (n : Nt) : Nt := ⟨n.places.mapIdx rnP, n.trans.mapIdx rnT⟩

theorem plsN_succ {l : List Pl} {k : Nat} {x : Pl} (h : l[k]? = some x) : plsN l (k + 1) = plsN l k ++ [rnP k x] := by
  have := lt_at h
  unfold plsN
  rw [take_at h, List.mapIdx_append]
  simp [Nat.min_eq_left (Nat.le_of_lt this)]
theorem trsN_succ {l : List (Tr × Value × Value × Value)} {k : Nat} {x : Tr × Value × Value × Value} (h : l[k]? = some x) : trsN l (k + 1) = trsN l k ++ [rnX k x] := by
  have := lt_at h
  unfold trsN
  rw [take_at h, List.mapIdx_append]
  simp [Nat.min_eq_left (Nat.le_of_lt this)]
theorem plsN_len (l : List Pl) (k : Nat) (h : k ≤ l.length) : (plsN l k).length = k := by simp [plsN]; omega
theorem trsN_len (l : List (Tr × Value × Value × Value)) (k : Nat) (h : k ≤ l.length) : (trsN l k).length = k := by simp [trsN]; omega

/-- two bytes as a text -/
theorem conv2n (w : World) (m d : Nat) (hm : m < 100) (hd : d < 100) : (convert 22 9 (.slice (some ⟨w.heap.size, 0, none⟩) 2 2)).run Try.prog (w.alloc (.cells #[.int .u8 (97 + (m : Int)), .int .u8 (97 + (d : Int))] 5)) = .ok (.string (bs [UInt8.ofNat (97 + m), UInt8.ofNat (97 + d)])) (w.alloc (.cells #[.int .u8 (97 + (m : Int)), .int .u8 (97 + (d : Int))] 5)) := by
  have hz : ∀ k : Nat, k < 100 → zi (UInt8.ofNat (97 + k)) = 97 + (k : Int) := by
    intro k hk
    unfold zi
    have : (UInt8.ofNat (97 + k)).toNat = 97 + k := by simp; omega
    rw [this]; omega
  have h1 := hz m hm
  have h2 := hz d hd
  generalize UInt8.ofNat (97 + m) = x at h1 ⊢
  generalize UInt8.ofNat (97 + d) = y at h2 ⊢
  have hcv := (BytesAt.str (w := w.alloc (.cells #[.int .u8 (zi x), .int .u8 (zi y)] 5)) (A := some ⟨w.heap.size, 0, none⟩) (n := 2) (l := [x, y]) ⟨rfl, fun _ => ⟨_, _, rfl, by simp, fun i z hx => by
    rw [Nat.zero_add, cell_marked]
    match i, hx with
    | 0, hx => simp at hx; subst hx; rfl
    | 1, hx => simp at hx; subst hx; rfl⟩⟩ 2)
  rw [h1, h2] at hcv
  exact hcv
theorem nm2_cat (c : UInt8) (k : Nat) : ({ data := #[c] } : ByteArray) ++ bs [UInt8.ofNat (97 + k % 26), UInt8.ofNat (97 + k / 26)] = nm2 c k := by
  apply ByteArray.ext; rw [ByteArray.data_append]; simp [bs, nm2]

/-- the net that is named under way -/
structure InNm (w wr : World) (D0 D1 vp vt : Value) (ps : List Pl) (l : List (Tr × Value × Value × Value)) : Prop where
  all : AllOwn w.heap.size wr [boxRow w.heap.size 31 [D0, D1], boxRow (w.heap.size + 1) 31 [.slice none 0 0, .slice none 0 0], boxRow (w.heap.size + 1 + 1) 31 [vp, vt], plRow vp ps, trRow vt l]
  below : Below w.heap.size w wr

theorem InNm.start (w : World) (D0 D1 : Value) : InNm w (((w.alloc (.cells #[D0, D1] 31)).alloc (.cells #[.slice none 0 0, .slice none 0 0] 31)).alloc (.cells #[.slice none 0 0, .slice none 0 0] 31)) D0 D1 (.slice none 0 0) (.slice none 0 0) [] [] := by
  have hs1 : (w.alloc (.cells #[D0, D1] 31)).heap.size = w.heap.size + 1 := by simp
  have hs2 : ((w.alloc (.cells #[D0, D1] 31)).alloc (.cells #[.slice none 0 0, .slice none 0 0] 31)).heap.size = w.heap.size + 1 + 1 := by simp
  have h1 := (AllOwn.nil w.heap.size w).add ((Below.refl _ w).alloc (Nat.le_refl _) _) (boxRow.new w.heap.size w 31 #[D0, D1] (Nat.le_refl _)) (fun k e => by injection e with e; subst e; exact Nat.le_refl _)
  have h2 := h1.add ((Below.refl _ _).alloc (Nat.le_refl _) _) (boxRow.new w.heap.size _ 31 #[.slice none 0 0, .slice none 0 0] (by simp <;> omega)) (fun k e => by injection e with e; subst e; exact Nat.le_refl _)
  have h3 := h2.add ((Below.refl _ _).alloc (Nat.le_refl _) _) (boxRow.new w.heap.size _ 31 #[.slice none 0 0, .slice none 0 0] (by simp <;> omega)) (fun k e => by injection e with e; subst e; exact Nat.le_refl _)
  have h4 := h3.add (Below.refl _ _) (r := plRow (.slice none 0 0) []) (ownNil _ _ _ _) (fun k e => by cases e)
  have h5 := h4.add (Below.refl _ _) (r := trRow (.slice none 0 0) []) (ownNil _ _ _ _) (fun k e => by cases e)
  rw [hs1, hs2] at h5
  exact ⟨h5, (((Below.refl _ w).alloc (Nat.le_refl _) _).alloc (by simp) _).alloc (by simp; omega) _⟩

section
variable {w wr : World} {D0 D1 vp vt : Value} {ps : List Pl} {l : List (Tr × Value × Value × Value)}

theorem InNm.d0 (h : InNm w wr D0 D1 vp vt ps l) : wr.cell? ⟨w.heap.size, 0, none⟩ = some D0 := boxRow.cell (h.all.own (boxRow w.heap.size 31 [D0, D1]) (by simp)) rfl
theorem InNm.d1 (h : InNm w wr D0 D1 vp vt ps l) : wr.cell? ⟨w.heap.size, 1, none⟩ = some D1 := boxRow.cell (h.all.own (boxRow w.heap.size 31 [D0, D1]) (by simp)) rfl
theorem InNm.bn (h : InNm w wr D0 D1 vp vt ps l) : (boxRow (w.heap.size + 1 + 1) 31 [vp, vt]).own w.heap.size wr := h.all.own _ (by simp)
theorem InNm.br (h : InNm w wr D0 D1 vp vt ps l) : (boxRow (w.heap.size + 1) 31 [.slice none 0 0, .slice none 0 0]).own w.heap.size wr := h.all.own _ (by simp)
theorem InNm.n0 (h : InNm w wr D0 D1 vp vt ps l) : wr.cell? ⟨w.heap.size + 1 + 1, 0, none⟩ = some vp := boxRow.cell h.bn rfl
theorem InNm.n1 (h : InNm w wr D0 D1 vp vt ps l) : wr.cell? ⟨w.heap.size + 1 + 1, 1, none⟩ = some vt := boxRow.cell h.bn rfl
theorem InNm.sz (h : InNm w wr D0 D1 vp vt ps l) : w.heap.size + 1 + 1 < wr.heap.size := (boxRow.lt h.bn).2
theorem InNm.pl (h : InNm w wr D0 D1 vp vt ps l) : OwnP w.heap.size wr vp ps := h.all.own (plRow vp ps) (by simp)
theorem InNm.tr (h : InNm w wr D0 D1 vp vt ps l) : OwnT w.heap.size wr vt l := h.all.own (trRow vt l) (by simp)
theorem InNm.go {w' : World} (h : InNm w wr D0 D1 vp vt ps l) (hb : Below wr.heap.size wr w') : InNm w w' D0 D1 vp vt ps l := ⟨h.all.below hb, h.below.trans (hb.mono h.below.size)⟩

theorem InNm.pushP {W w2 : World} {v2 : Value} {x : Pl} (h : InNm w wr D0 D1 vp vt ps l) (hb : Below wr.heap.size wr W) (h2 : OwnP w.heap.size w2 v2 (ps ++ [x])) (hk : Kept (fun k => vp.ownBlock = some k) W w2) (hv : v2.ownBlock = vp.ownBlock ∨ v2.ownBlock = some (W.heap.size + 1)) :
    InNm w (w2.setCell ⟨w.heap.size + 1 + 1, 0, none⟩ v2) D0 D1 v2 vt (ps ++ [x]) l ∧ w2.cell? ⟨w.heap.size + 1 + 1, 0, none⟩ = some vp ∧ w2.frozen? ⟨w.heap.size + 1 + 1, 0, none⟩ = false ∧ w.heap.size + 1 + 1 < w2.heap.size := by
  have h1 := (h.go hb)
  have a1 := AllOwn.swap (pre := [boxRow w.heap.size 31 [D0, D1], boxRow (w.heap.size + 1) 31 [.slice none 0 0, .slice none 0 0], boxRow (w.heap.size + 1 + 1) 31 [vp, vt]]) (r := plRow vp ps) (r' := plRow v2 (ps ++ [x])) (post := [trRow vt l]) h1.all hk h2 (by
      rcases hv with e | e
      · exact .inl e
      · exact .inr ⟨_, e, by omega⟩)
  have a2 := AllOwn.store (pre := [boxRow w.heap.size 31 [D0, D1], boxRow (w.heap.size + 1) 31 [.slice none 0 0, .slice none 0 0]]) (b := w.heap.size + 1 + 1) (t := 31) (cs := [vp, vt]) (post := [plRow v2 (ps ++ [x]), trRow vt l]) a1 0 v2
  have hb2 := a1.own (boxRow (w.heap.size + 1 + 1) 31 [vp, vt]) (by simp)
  refine ⟨⟨a2.1, ?_⟩, boxRow.cell hb2 rfl, boxRow.froz hb2 0, (boxRow.lt hb2).2⟩
  have hk2 : Kept (fun k => w.heap.size ≤ k) W (w2.setCell ⟨w.heap.size + 1 + 1, 0, none⟩ v2) := (hk.mono (fun k _ e => (Row.lt (r := plRow vp ps) h1.pl e).1)).trans (a2.2.mono (fun k _ e => by omega))
  exact h1.below.trans (hk2.below (fun k hk => hk) h1.below.size)

theorem InNm.pushT {W w2 : World} {v2 : Value} {x : Tr × Value × Value × Value} (h : InNm w wr D0 D1 vp vt ps l) (hb : Below wr.heap.size wr W) (h2 : OwnT w.heap.size w2 v2 (l ++ [x])) (hk : Kept (fun k => vt.ownBlock = some k) W w2) (hv : v2.ownBlock = vt.ownBlock ∨ v2.ownBlock = some (W.heap.size + 1)) :
    InNm w (w2.setCell ⟨w.heap.size + 1 + 1, 1, none⟩ v2) D0 D1 vp v2 ps (l ++ [x]) ∧ w2.cell? ⟨w.heap.size + 1 + 1, 1, none⟩ = some vt ∧ w2.frozen? ⟨w.heap.size + 1 + 1, 1, none⟩ = false ∧ w.heap.size + 1 + 1 < w2.heap.size := by
  have h1 := (h.go hb)
  have a1 := AllOwn.swap (pre := [boxRow w.heap.size 31 [D0, D1], boxRow (w.heap.size + 1) 31 [.slice none 0 0, .slice none 0 0], boxRow (w.heap.size + 1 + 1) 31 [vp, vt], plRow vp ps]) (r := trRow vt l) (r' := trRow v2 (l ++ [x])) (post := []) h1.all hk h2 (by
      rcases hv with e | e
      · exact .inl e
      · exact .inr ⟨_, e, by omega⟩)
  have a2 := AllOwn.store (pre := [boxRow w.heap.size 31 [D0, D1], boxRow (w.heap.size + 1) 31 [.slice none 0 0, .slice none 0 0]]) (b := w.heap.size + 1 + 1) (t := 31) (cs := [vp, vt]) (post := [plRow vp ps, trRow v2 (l ++ [x])]) a1 1 v2
  have hb2 := a1.own (boxRow (w.heap.size + 1 + 1) 31 [vp, vt]) (by simp)
  refine ⟨⟨a2.1, ?_⟩, boxRow.cell hb2 rfl, boxRow.froz hb2 1, (boxRow.lt hb2).2⟩
  have hk2 : Kept (fun k => w.heap.size ≤ k) W (w2.setCell ⟨w.heap.size + 1 + 1, 1, none⟩ v2) := (hk.mono (fun k _ e => (Row.lt (r := trRow vt l) h1.tr e).1)).trans (a2.2.mono (fun k _ e => by omega))
  exact h1.below.trans (hk2.below (fun k hk => hk) h1.below.size)

theorem InNm.finish (h : InNm w wr D0 D1 vp vt ps l) : PlsAt ((wr.setCell ⟨w.heap.size + 1, 0, none⟩ vp).setCell ⟨w.heap.size + 1, 1, none⟩ vt) vp ps ∧ RowAt 6 ((wr.setCell ⟨w.heap.size + 1, 0, none⟩ vp).setCell ⟨w.heap.size + 1, 1, none⟩ vt) vt l.length (l.flatMap trL) ∧ Below w.heap.size w ((wr.setCell ⟨w.heap.size + 1, 0, none⟩ vp).setCell ⟨w.heap.size + 1, 1, none⟩ vt) ∧
    ((wr.setCell ⟨w.heap.size + 1, 0, none⟩ vp).setCell ⟨w.heap.size + 1, 1, none⟩ vt).cell? ⟨w.heap.size + 1, 0, none⟩ = some vp ∧ ((wr.setCell ⟨w.heap.size + 1, 0, none⟩ vp).setCell ⟨w.heap.size + 1, 1, none⟩ vt).cell? ⟨w.heap.size + 1, 1, none⟩ = some vt ∧ AllOwn w.heap.size ((wr.setCell ⟨w.heap.size + 1, 0, none⟩ vp).setCell ⟨w.heap.size + 1, 1, none⟩ vt) [plRow vp ps, trRow vt l] := by
  have h1 := AllOwn.store (pre := [boxRow w.heap.size 31 [D0, D1]]) (b := w.heap.size + 1) (t := 31) (cs := [.slice none 0 0, .slice none 0 0]) (post := [boxRow (w.heap.size + 1 + 1) 31 [vp, vt], plRow vp ps, trRow vt l]) h.all 0 vp
  have h2 := AllOwn.store (pre := [boxRow w.heap.size 31 [D0, D1]]) (b := w.heap.size + 1) (t := 31) (post := [boxRow (w.heap.size + 1 + 1) 31 [vp, vt], plRow vp ps, trRow vt l]) h1.1 1 vt
  have hb := h2.1.own (boxRow (w.heap.size + 1) 31 [vp, vt]) (List.mem_append_right _ (List.mem_cons_self ..))
  exact ⟨RowAt.of_own (h2.1.own (plRow vp ps) (by simp)), RowAt.of_own (h2.1.own (trRow vt l) (by simp)), h.below.trans ((h1.2.trans h2.2).below (fun k e => by omega) h.below.size), boxRow.cell hb rfl, boxRow.cell hb rfl, h2.1.sub (((List.Sublist.refl _).cons _).cons _ |>.cons _)⟩
end

theorem namedN_trans (lt : List (Tr × Value × Value × Value)) : (lt.mapIdx rnX).map (·.1) = (lt.map (·.1)).mapIdx rnT := by
  apply List.ext_getElem?
  intro i
  simp [List.getElem?_mapIdx, List.getElem?_map]
  cases lt[i]? <;> simp [rnX]

set_option maxRecDepth 100000 in
set_option maxHeartbeats 4000000 in
theorem named_own {w : World} {n : Nt} {lt : List (Tr × Value × Value × Value)} {ap at_ : Option Addr} {cp ct np nt : Nat} (hnp : np = n.places.length) (hnt : nt = n.trans.length) (hp1 : np ≤ 1000) (ht1 : nt ≤ 1000) (hpl : PlsAt w (.slice ap np cp) n.places) (hl : lt.map (·.1) = n.trans) (ht : TrsAt w (.slice at_ nt ct) lt) :
    Calls Try.prog 42 #[.agg #[.slice ap np cp, .slice at_ nt ct]] w fun e w' => ∃ vp vt, e = .returned (.agg #[vp, vt]) ∧ AllOwn w.heap.size w' [plRow vp (namedN n).places, trRow vt (lt.mapIdx rnX)] ∧ Below w.heap.size w w' := by
  have hll : lt.length = n.trans.length := by rw [← hl, List.length_map]
  have Hll := Lib.hid hll
  have Hnp := Lib.hid hnp
  have Hnt := Lib.hid hnt
  have Hpl := Lib.hid hpl
  have Hl := Lib.hid hl
  have Ht := Lib.hid ht
  clear hpl hl ht hnp hnt hll
  go_enter Try.func42, Try.ntmps42
  go_wp2
  go_loopw [4] (fun i wr => ∃ k : Nat, k ≤ np ∧ i = .int .i64 k ∧ ∃ vp, InNm w wr (.slice ap np cp) (.slice at_ nt ct) vp (.slice none 0 0) (plsN n.places k) []) (fun i _ => np - (intOf i).toNat)
  case atStart => exact ⟨0, by omega, rfl, _, InNm.start _ _ _⟩
  case round =>
    rename World => v1
    obtain ⟨k, hk, rfl, vp, hin⟩ := hrel
    have d0 := hin.d0
    have n0 := hin.n0
    have hsz := hin.sz
    by_cases hlt : k < np
    · have hlti : (k : Int) < (np : Int) := by omega
      obtain ⟨x, hx⟩ := at_lt (l := n.places) (k := k) (by rw [← Hnp.out]; exact hlt)
      obtain ⟨b, off, rfl, hbw, e0, e1⟩ := (Hpl.out.below hin.below).at_ hx
      obtain ⟨m, hm⟩ : ∃ m, m = k % 26 := ⟨_, rfl⟩
      obtain ⟨d, hd'⟩ : ∃ d, d = k / 26 := ⟨_, rfl⟩
      have hmi : (k : Int) % 26 = (m : Int) := by omega
      have hdi : (k : Int) / 26 = (d : Int) := by omega
      have hm8 : IntKind.u8.wrap (97 + (m : Int)) = 97 + (m : Int) := u8_in _ (by omega) (by omega)
      have hd8 : IntKind.u8.wrap (97 + (d : Int)) = 97 + (d : Int) := u8_in _ (by omega) (by omega)
      have hcv := conv2n (v1.alloc (.cells #[.string x.name, .int .i64 x.tok] 57)) m d (by omega) (by omega)
      obtain ⟨sv, hsv⟩ : ∃ sv, sv = bs [UInt8.ofNat (97 + m), UInt8.ofNat (97 + d)] := ⟨_, rfl⟩
      rw [← hsv] at hcv
      obtain ⟨nm, hnm⟩ : ∃ z, z = nm2 112 k := ⟨_, rfl⟩
      have q1 : ({ data := #[112] } : ByteArray) ++ sv = nm := by rw [hnm, hsv, hm, hd']; exact nm2_cat _ _
      have s0 : sv.size = 2 := by rw [hsv]; rfl
      rw [show ∀ (W : World) (o : Obj), (W.alloc o).heap.size = W.heap.size + 1 from fun W o => by simp] at hcv
      obtain ⟨v2, w2, hr, ho2, hk2, hv2⟩ := run_push_pl 28 (rnP k x) (w := (v1.alloc (.cells #[.string nm, .int .i64 x.tok] 57)).alloc (.cells #[.int .u8 (97 + (m : Int)), .int .u8 (97 + (d : Int))] 5)) ((hin.pl.alloc _).alloc _) (by rw [plsN_len _ _ (by rw [← Hnp.out]; omega)]; omega) (by simp; omega)
      obtain ⟨av2, nv2, cv2, rfl⟩ := own_form3 ho2
      obtain ⟨hin2, g1, g2, g3⟩ := hin.pushP (((Below.refl _ _).alloc (Nat.le_refl _) _).alloc (by simp) _) ho2 hk2 hv2
      rw [show ∀ (W : World) (o : Obj), (W.alloc o).heap.size = W.heap.size + 1 from fun W o => by simp, show ∀ (W : World) (o : Obj), (W.alloc o).heap.size = W.heap.size + 1 from fun W o => by simp, show rnP k x = ⟨nm, x.tok⟩ by rw [hnm]; rfl] at hr
      rw [← plsN_succ hx] at hin2
      have n0a := (hin.go ((((Below.refl v1.heap.size v1).alloc (Nat.le_refl _) (.cells #[.string nm, .int .i64 x.tok] 57)).alloc (by simp) (.cells #[.int .u8 (97 + (m : Int)), .int .u8 (97 + (d : Int))] 5)))).n0
      have Hin2 := Lib.hid hin2
      clear hm hd' hsv hnm hin hin2 ho2 hk2 hv2 hx
      go_wp2_with (at_builtin; refine wpList_append_eq rfl (.tmp 34) (.tmp 36) 28 rfl rfl rfl hr ?_)
      go_roundw
      case rel => exact ⟨k + 1, by omega, by go_num, _, Hin2.out⟩
      case measure => simp [intOf]; omega
    · have hge : ¬ (k : Int) < (np : Int) := by omega
      have hin0 : InNm w v1 (.slice ap np cp) (.slice at_ nt ct) vp (.slice none 0 0) (n.places.mapIdx rnP) (trsN lt 0) := by
        have e : plsN n.places k = n.places.mapIdx rnP := by unfold plsN; rw [List.take_of_length_le (by rw [← Hnp.out]; omega)]
        rw [← e]; exact hin
      have Hi := Lib.hid hin0
      clear hin hin0
      go_wp2
      clear d0 n0 hsz
      go_loopw [6] (fun i wr => ∃ k : Nat, k ≤ nt ∧ i = .int .i64 k ∧ ∃ vt, InNm w wr (.slice ap np cp) (.slice at_ nt ct) vp vt (n.places.mapIdx rnP) (trsN lt k)) (fun i _ => nt - (intOf i).toNat)
      case atStart => exact ⟨0, by omega, rfl, _, Hi.out⟩
      case round =>
        rename World => v3
        obtain ⟨k, hk, rfl, vt, hin⟩ := hrel
        have d1 := hin.d1
        have n1 := hin.n1
        have hsz := hin.sz
        by_cases hlt : k < nt
        · have hlti : (k : Int) < (nt : Int) := by omega
          obtain ⟨y, hy⟩ := at_lt (l := lt) (k := k) (by rw [Hll.out, ← Hnt.out]; exact hlt)
          obtain ⟨x, s1, s2, s3⟩ := y
          have hat := RowAt.elem trL_len (Ht.out.below hin.below).1 hy
          obtain ⟨f1, f2, f3⟩ := (Ht.out.below hin.below).2 _ (List.mem_of_getElem? hy)
          obtain ⟨a1, c1, h1⟩ := RowAt.len f1
          obtain ⟨a2, c2, h2⟩ := RowAt.len f2
          obtain ⟨a3, c3, h3⟩ := RowAt.len f3
          simp only at f1 f2 f3 h1 h2 h3
          subst h1 h2 h3
          obtain ⟨b, off, rfl, hbw, hc⟩ := hat
          have e0 := hc 0 _ rfl
          have e1 := hc 1 _ rfl
          have e2 := hc 2 _ rfl
          have e3 := hc 3 _ rfl
          have e4 := hc 4 _ rfl
          have e5 := hc 5 _ rfl
          obtain ⟨n1', hn1⟩ : ∃ n, n = x.inn.length := ⟨_, rfl⟩
          obtain ⟨n2', hn2⟩ : ∃ n, n = x.nt.length := ⟨_, rfl⟩
          obtain ⟨n3', hn3⟩ : ∃ n, n = x.out.length := ⟨_, rfl⟩
          rw [← hn1, ← hn2, ← hn3] at hy
          simp only [Nat.add_zero] at e0 e1 e2 e3 e4 e5
          rw [← hn1] at e3
          rw [← hn2] at e4
          rw [← hn3] at e5
          obtain ⟨m, hm⟩ : ∃ m, m = k % 26 := ⟨_, rfl⟩
          obtain ⟨d, hd'⟩ : ∃ d, d = k / 26 := ⟨_, rfl⟩
          have hmi : (k : Int) % 26 = (m : Int) := by omega
          have hdi : (k : Int) / 26 = (d : Int) := by omega
          have hm8 : IntKind.u8.wrap (97 + (m : Int)) = 97 + (m : Int) := u8_in _ (by omega) (by omega)
          have hd8 : IntKind.u8.wrap (97 + (d : Int)) = 97 + (d : Int) := u8_in _ (by omega) (by omega)
          have hcv := conv2n (v3.alloc (.cells #[.string x.name, .int .i64 x.delay, .int .i64 x.prio, .slice a1 n1' c1, .slice a2 n2' c2, .slice a3 n3' c3] 79)) m d (by omega) (by omega)
          obtain ⟨sv, hsv⟩ : ∃ sv, sv = bs [UInt8.ofNat (97 + m), UInt8.ofNat (97 + d)] := ⟨_, rfl⟩
          rw [← hsv] at hcv
          obtain ⟨nm, hnm⟩ : ∃ z, z = nm2 116 k := ⟨_, rfl⟩
          have q1 : ({ data := #[116] } : ByteArray) ++ sv = nm := by rw [hnm, hsv, hm, hd']; exact nm2_cat _ _
          have s0 : sv.size = 2 := by rw [hsv]; rfl
          rw [show ∀ (W : World) (o : Obj), (W.alloc o).heap.size = W.heap.size + 1 from fun W o => by simp] at hcv
          obtain ⟨v2, w2, hr, ho2, hk2, hv2⟩ := run_push_tr 29 (rnX k (x, .slice a1 n1' c1, .slice a2 n2' c2, .slice a3 n3' c3)) (w := (v3.alloc (.cells #[.string nm, .int .i64 x.delay, .int .i64 x.prio, .slice a1 n1' c1, .slice a2 n2' c2, .slice a3 n3' c3] 79)).alloc (.cells #[.int .u8 (97 + (m : Int)), .int .u8 (97 + (d : Int))] 5)) ((hin.tr.alloc _).alloc _) rfl rfl rfl (by rw [trsN_len _ _ (by rw [Hll.out, ← Hnt.out]; omega)]; omega) (by simp; omega)
          obtain ⟨av2, nv2, cv2, rfl⟩ := own_form3 ho2
          obtain ⟨hin2, g1, g2, g3⟩ := hin.pushT (((Below.refl _ _).alloc (Nat.le_refl _) _).alloc (by simp) _) ho2 hk2 hv2
          rw [show ∀ (W : World) (o : Obj), (W.alloc o).heap.size = W.heap.size + 1 from fun W o => by simp, show ∀ (W : World) (o : Obj), (W.alloc o).heap.size = W.heap.size + 1 from fun W o => by simp, show rnX k (x, .slice a1 n1' c1, .slice a2 n2' c2, .slice a3 n3' c3) = (⟨nm, x.delay, x.prio, x.inn, x.nt, x.out⟩, .slice a1 n1' c1, .slice a2 n2' c2, .slice a3 n3' c3) by rw [hnm]; rfl] at hr
          rw [← trsN_succ hy] at hin2
          have n1a := (hin.go ((((Below.refl v3.heap.size v3).alloc (Nat.le_refl _) (.cells #[.string nm, .int .i64 x.delay, .int .i64 x.prio, .slice a1 n1' c1, .slice a2 n2' c2, .slice a3 n3' c3] 79)).alloc (by simp) (.cells #[.int .u8 (97 + (m : Int)), .int .u8 (97 + (d : Int))] 5)))).n1
          have Hin2 := Lib.hid hin2
          clear hm hd' hsv hnm hin hin2 ho2 hk2 hv2 hy hn1 hn2 hn3 f1 f2 f3 hc
          go_wp2_with (at_builtin; refine wpList_append_eq rfl (.tmp 64) (.tmp 66) 29 rfl rfl rfl hr ?_)
          go_roundw
          case rel => exact ⟨k + 1, by omega, by go_num, _, Hin2.out⟩
          case measure => simp [intOf]; omega
        · have hge : ¬ (k : Int) < (nt : Int) := by omega
          have n0 := hin.n0
          have hbr := (boxRow.lt hin.br).2
          have hfr0 := boxRow.froz hin.br 0
          have hfr1 := boxRow.froz hin.br 1
          have hcr0 : v3.cell? ⟨w.heap.size + 1, 0, none⟩ = some (.slice none 0 0) := boxRow.cell hin.br rfl
          have hcr1 : v3.cell? ⟨w.heap.size + 1, 1, none⟩ = some (.slice none 0 0) := boxRow.cell hin.br rfl
          have e : trsN lt k = lt.mapIdx rnX := by unfold trsN; rw [List.take_of_length_le (by rw [Hll.out, ← Hnt.out]; omega)]
          rw [e] at hin
          obtain ⟨avp, nvp, cvp, rfl⟩ := own_form3 hin.pl
          obtain ⟨avt, nvt, cvt, rfl⟩ := own_form3 hin.tr
          have hfin := hin.finish
          have rc0 := hfin.2.2.2.1
          have rc1 := hfin.2.2.2.2.1
          have Hfin := Lib.hid hfin
          clear hin hfin e
          go_wp2
          exact bodyPost_ret (v := .agg #[.slice avp nvp cvp, .slice avt nvt cvt]) (by simp [results, Try.results42, go_sem, rc0, rc1]) rfl ⟨_, _, rfl, Hfin.out.2.2.2.2.2, Hfin.out.2.2.1⟩

theorem named_any {w : World} {n : Nt} {ap at_ : Option Addr} {cp ct np nt : Nat} (hnp : np = n.places.length) (hnt : nt = n.trans.length) (hp1 : np ≤ 1000) (ht1 : nt ≤ 1000) (h : NetAt w (.slice ap np cp) (.slice at_ nt ct) n) :
    Calls Try.prog 42 #[.agg #[.slice ap np cp, .slice at_ nt ct]] w fun e w' => ∃ vp vt, e = .returned (.agg #[vp, vt]) ∧ NetAt w' vp vt (namedN n) ∧ Below w.heap.size w w' := by
  obtain ⟨hpl, lt, hl, ht⟩ := h
  refine (named_own hnp hnt hp1 ht1 hpl hl ht).mono ?_
  rintro e w' ⟨vp, vt, rfl, ha, hb⟩
  refine ⟨vp, vt, rfl, ⟨RowAt.of_own (ha.own (plRow vp (namedN n).places) (by simp)), lt.mapIdx rnX, ?_, RowAt.of_own (ha.own (trRow vt (lt.mapIdx rnX)) (by simp)), ?_⟩, hb⟩
  · rw [namedN_trans, hl]; rfl
  · intro y hy
    obtain ⟨i, hi, rfl⟩ := List.mem_mapIdx.1 hy
    have := (ht.below hb).2 _ (List.getElem_mem hi)
    exact this
end Go.Proofs.Ytpbbdnicafifpaa
