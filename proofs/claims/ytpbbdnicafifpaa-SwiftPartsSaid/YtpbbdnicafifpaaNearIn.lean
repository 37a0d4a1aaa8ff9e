/-
  append onto a row of the call's own, whatever is appended: cells behind an address, nothing, a string's bytes; rows of bytes of the call's own. A net of the call's own of which one thing is stored anew: a place's, a transition's, an arc's cell; a list. A net that came in reads as a net. Lists of arcs appended to a new one; a list of a transition stored anew; drafts that came in.
  Conditions: none beyond each theorem's own.
-/
import Derived.Test.YtpbbdnicafifpaaBase4
import Derived.Test.YtpbbdnicafifpaaMakeB
import Derived.Test.YtpbbdnicafifpaaRowAt
import Derived.Deep.AppendSrc
import Derived.Deep.Upon
import Derived.Laws.CopyRow
import Derived.ProofKit
import Derived.OpenShut
import Derived.Deep.Slices
import Derived.Deep.Fields
import Derived.ChangeSame
/-! ## AppendSrc -/
namespace Go.Proofs.Ytpbbdnicafifpaa
open Go.RowKit
set_option linter.unusedVariables false

theorem run_append_own_src {P : Program} (w : World) (base : Nat) (t tx ty e : TypeId) (i : TypeInfo) (z : Value) (size bytes : Nat) (ht : P.underlying t = some (.slice e)) (hi : P.info? e = some i) (hz : i.zero = some z)
    (hsize : i.size = size) (hby : i.bytes = bytes) (hzs : z.cells.size = size) (hsz : 0 < size)
    (v : Value) (n : Nat) (xs : List Value) (hown : w.ownsRow base e size v n xs) (x : Value) (m : Nat) (news : List Value) (hs : Src P size tx x m news w)
    (h63 : n + m ≤ maxLen) (hbytes : (n + m) * bytes ≤ 140737488355328) (hbase : base ≤ w.heap.size) :
    ∃ v' w', (Builtin.append_ #[t, tx] ty #[v, x]).run P w = .ok v' w' ∧ w'.ownsRow base e size v' (n + m) (xs ++ news) ∧ w.grownBy w' v.ownBlock := by
  subst hsize
  subst hby
  have hl := hs.newsLen
  have hsmall : n + m ≤ 9223372036854775807 := by simp only [maxLen] at h63; omega
  have hlen : (xs ++ news).length = (n + m) * i.size := by rw [List.length_append, hown.1, hl, Nat.add_mul]
  have grown : ∀ (old : Nat), old < n + m → ∀ (row : Option Nat),
      (w.drew.alloc (.cells ((xs ++ news).toArray ++ Builtin.zeroCells z.cells (grownCap w (n + m) old e - (n + m))) e)).ownsRow base e i.size
        (.slice (some ⟨w.heap.size, 0, none⟩) (n + m) (grownCap w (n + m) old e)) (n + m) (xs ++ news) ∧
      w.grownBy (w.drew.alloc (.cells ((xs ++ news).toArray ++ Builtin.zeroCells z.cells (grownCap w (n + m) old e - (n + m))) e)) row := by
    intro old ho row
    have hge := grownCap_ge w (n + m) old e
    have hcm : grownCap w (n + m) old e ≤ maxLen := grownCap_le_maxLen w (n + m) old e h63
    refine ⟨⟨hlen, .inr ⟨w.heap.size, _, _, rfl, hbase, heap_alloc_new w.drew _, hge, hcm, ?_, ?_⟩⟩, ⟨rfl, rfl, rfl, by simp, fun k hk _ => heap_alloc_old w.drew _ hk⟩⟩
    · simp only [Array.size_append, List.size_toArray, size_zeroCells, hzs, hlen, ← Nat.add_mul]
      congr 1
      omega
    · simp only [Array.toList_append]
      rw [← hlen]
      exact List.take_left
  rcases hown.2 with ⟨rfl, rfl⟩ | ⟨g, cap, cur, rfl, hbg, hg, hnc, hcm, hcs, htake⟩
  · have hx : xs = [] := List.eq_nil_of_length_eq_zero (by simpa using hown.1)
    subst hx
    by_cases hm : m = 0
    · subst hm
      have hn : news = [] := List.eq_nil_of_length_eq_zero (by simpa using hl)
      subst hn
      exact ⟨_, w, run_append_nothing w t tx ty e i ht hi none 0 0 (Nat.le_refl _) x hs, World.ownsRow_nil w base e i.size, ⟨rfl, rfl, rfl, Nat.le_refl _, fun _ _ _ => rfl⟩⟩
    · have hr := run_append_grow_src (P := P) w t tx ty e i z ht hi hz none 0 0 [] (run_firstCells_none w.drew i.size 0 0 0) x m news hs (by omega) (by omega) (by rw [Nat.zero_add, nextslicecap_zero (by omega)]; have hb := hbytes; simp only [Nat.zero_add] at hb; omega)
      have hgr := grown 0 (by omega) (Value.ownBlock (.slice none 0 0))
      exact ⟨_, _, hr, hgr.1, hgr.2⟩
  · by_cases hroom : n + m ≤ cap
    · have hfit : n * i.size + 0 + news.length ≤ cur.size := by rw [hl, hcs, Nat.add_zero, ← Nat.add_mul]; exact Nat.mul_le_mul_right _ hroom
      have hst := run_storeCells_at (P := P) g (n * i.size) e news 0 cur w hg hfit hs.one
      simp only [Nat.add_zero] at hst hfit
      have hr : (Builtin.append_ #[t, tx] ty #[.slice (some ⟨g, 0, none⟩) n cap, x]).run P w = .ok (.slice (some ⟨g, 0, none⟩) (n + m) cap) (w.setRow g (cur.toList.take (n * i.size) ++ news ++ cur.toList.drop (n * i.size + news.length)).toArray) := by
        rcases hs.kind with ⟨e', hk⟩ | hk <;> simp [Builtin.append_, run_underlying ht, run_underlying hk, sizeOf, typeInfo, hi, hs.len, hroom, hs.cells, Addr.add_lit, hst]
      refine ⟨_, _, hr, ⟨hlen, .inr ⟨g, cap, _, rfl, hbg, setRow_heap w g cur _ e _ hg, hroom, hcm, ?_, ?_⟩⟩, ⟨rfl, rfl, rfl, by simp, fun k _ hk => setRow_other w g k _ (fun e => hk (by simp [Value.ownBlock, e]))⟩⟩
      · simp only [List.size_toArray, List.length_append, List.length_take, List.length_drop, Array.length_toList]
        omega
      · rw [htake, ← hlen]
        exact List.take_left
    · have holds : ∀ j u, xs[j]? = some u → w.cell? ((⟨g, 0, none⟩ : Addr).add j) = some u := hown.cells (g := g) rfl
      have hf := run_firstCells_some (P := P) w.drew i.size n ⟨g, 0, none⟩ n cap xs hown.1 (by simpa using holds)
      have hr := run_append_grow_src (P := P) w t tx ty e i z ht hi hz (some ⟨g, 0, none⟩) n cap xs hf x m news hs (by omega) (by omega) (growslice_fits (by omega) hbytes)
      have hgr := grown cap (by omega) (Value.ownBlock (.slice (some ⟨g, 0, none⟩) n cap))
      exact ⟨_, _, hr, hgr.1, hgr.2⟩

/-- append of another type's source as one operation, by an equation on what it comes to -/
theorem wpList_append_eq2 {P : Program} {w w' : World} {ops : Array Oper} {rest : List Oper} {o : Oper} {a : Act} {Q : Exit → Act → World → Prop} (hgd : o.guard = none) (s x : Operand) (t tx : TypeId)
    (ho : o.op = .call { callee := .builtin .append, args := #[s, x], argTypes := #[t, tx] }) {v y v' : Value} (hs : a.eval s = v) (hx : a.eval x = y)
    (hr : (Builtin.append_ #[t, tx] o.type #[v, y]).run P w = .ok v' w') (h : wpList P ops Q rest (a.put o.dst v') w') : wpList P ops Q (o :: rest) a w := by
  refine wpList_plain hgd fun K hK => ?_
  unfold Oper.wp execOp
  simp only [ho, resolve, invoke, builtin, Sem.run_bind, Sem.run_pure, Result.andThen_ok, List.map_toArray, List.map_cons, List.map_nil, hs, hx, hr]
  exact hK _ _ h

/-- the cells of bytes -/
def byteVals (l : List UInt8) : List Value := l.map (fun x => .int .u8 (zi x))

/-- a slice of bytes of the call's own -/
def OwnB (B : Nat) (w : World) (v : Value) (l : List UInt8) : Prop := w.ownsRow B 5 1 v l.length (byteVals l)

theorem OwnB.bytes {B : Nat} {w : World} {a : Option Addr} {n c : Nat} {l : List UInt8} (h : OwnB B w (.slice a n c) l) : n = l.length ∧ n ≤ c ∧ BytesAt w a n l := by
  rcases h.2 with ⟨h0, h1⟩ | ⟨r, cap, cur, hv, hB, hb, hle, hmx, hsz, htk⟩
  · injection h0 with e1 e2 e3
    refine ⟨by rw [e2, h1], by rw [e2]; omega, by rw [e2, h1], fun hp => by omega⟩
  · injection hv with e1 e2 e3
    subst e1; subst e2; subst e3
    refine ⟨rfl, hle, rfl, fun hp => ⟨r, 0, rfl, (Array.getElem?_eq_some_iff.1 hb).1, fun i x hx => ?_⟩⟩
    have hi : i < l.length := (List.getElem?_eq_some_iff.1 hx).1
    rw [Nat.zero_add, World.ownsRow.cellAt h i (by omega)]
    simp [byteVals, hx]

theorem Try.info_u8 : (Try.prog.info? 5).map (fun i => (i.zero, i.size, i.bytes)) = some (some (.int .u8 0), 1, 1) := by kernel_rfl

/-- bytes behind bytes -/
theorem run_push_bytes {B : Nat} {v : Value} {l : List UInt8} (ty tx : TypeId) {w : World} (h : OwnB B w v l) (x : Value) (k : List UInt8) (hs : Src Try.prog 1 tx x k.length (byteVals k) w) (hl : l.length + k.length ≤ 1000000) (hB : B ≤ w.heap.size) :
    ∃ v' w', (Builtin.append_ #[22, tx] ty #[v, x]).run Try.prog w = .ok v' w' ∧ OwnB B w' v' (l ++ k) ∧ Kept (fun j => v.ownBlock = some j) w w' := by
  obtain ⟨i0, hi0, hz0, hz1, hz2⟩ := info_parts Try.info_u8
  obtain ⟨v', w', hr, h2, h3⟩ := run_append_own_src (P := Try.prog) w B 22 tx ty 5 i0 _ 1 1 Try.underlying22 hi0 hz0 hz1 hz2 rfl (by omega) v l.length (byteVals l) h x k.length (byteVals k) hs (by unfold maxLen; omega) (by omega) hB
  refine ⟨v', w', hr, ?_, (Kept.refl _ w).grown h3 (fun _ h => h)⟩
  unfold OwnB
  have e : byteVals (l ++ k) = byteVals l ++ byteVals k := by simp [byteVals]
  rw [e, List.length_append]
  exact h2

theorem byteVals_one (l : List UInt8) : ∀ u ∈ byteVals l, u.oneCell' = true := by
  intro u hu
  obtain ⟨_, _, rfl⟩ := List.mem_map.1 hu
  rfl

theorem src_string (w : World) (s : ByteArray) : Src Try.prog 1 9 (.string s) s.data.toList.length (byteVals s.data.toList) w := by
  have := Src.ofString (P := Try.prog) w Try.underlying9 s
  have e : s.size = s.data.toList.length := Array.length_toList.symm
  rw [e] at this
  exact this

theorem BytesAt.src {w : World} {A : Option Addr} {n : Nat} {l : List UInt8} (h : BytesAt w A n l) (c : Nat) (hA : A = none → n = 0) : Src Try.prog 1 22 (.slice A n c) l.length (byteVals l) w := by
  have hn := h.len
  cases A with
  | none =>
    have h0 := hA rfl
    subst h0
    have hl : l = [] := List.eq_nil_of_length_eq_zero h.len
    subst hl
    exact Src.ofNil w Try.underlying22 c
  | some a =>
    rw [hn]
    refine Src.ofSlice w Try.underlying22 a n c (byteVals l) (by simp [byteVals, hn]) ?_ (byteVals_one l)
    intro j u hu
    have hj : j < l.length := by have := (List.getElem?_eq_some_iff.1 hu).1; simpa [byteVals] using this
    obtain ⟨b, off, e, hb, hc⟩ := h.cells (by omega)
    injection e with e
    subst e
    have e2 : (⟨b, off, none⟩ : Addr).add j = ⟨b, off + j, none⟩ := by unfold Addr.add; split <;> simp_all
    rw [e2, hc j _ (List.getElem?_eq_getElem hj)]
    simp [byteVals, hj] at hu
    rw [hu]

end Go.Proofs.Ytpbbdnicafifpaa

/-! ## NearL -/
namespace Go.Proofs.Ytpbbdnicafifpaa
open Go.RowKit
set_option linter.unusedVariables false

theorem flat_set {α : Type} {f : α → List Value} {k : Nat} (hf : ∀ a, (f a).length = k) (l : List α) : ∀ (i j : Nat) (a a' : α) (y : Value), l[i]? = some a → j < k → f a' = (f a).set j y → (l.flatMap f).set (i * k + j) y = (l.set i a').flatMap f := by
  induction l with
  | nil => intro i j a a' y h; simp at h
  | cons p l ih =>
    intro i j a a' y hi hj h
    rw [List.flatMap_cons]
    cases i with
    | zero =>
      simp at hi
      subst hi
      rw [Nat.zero_mul, Nat.zero_add, List.set_append_left _ _ (by rw [hf]; exact hj), List.set_cons_zero, List.flatMap_cons, h]
    | succ i =>
      have e : (i + 1) * k + j - k = i * k + j := by rw [Nat.succ_mul]; omega
      have e2 : k ≤ (i + 1) * k + j := by rw [Nat.succ_mul]; omega
      rw [List.set_append_right _ _ (by rw [hf]; exact e2), hf, e, List.set_cons_succ, List.flatMap_cons]
      rw [ih i j a a' y (by simpa using hi) hj h]

theorem set_split {α : Type} {l : List α} {i : Nat} {a : α} (h : l[i]? = some a) (a' : α) : l = l.take i ++ a :: l.drop (i + 1) ∧ l.set i a' = l.take i ++ a' :: l.drop (i + 1) := by
  have hi := lt_at h
  constructor
  · rw [← drop_at h, List.take_append_drop]
  · rw [List.set_eq_take_append_cons_drop, if_pos hi]

section
variable {B : Nat} {w : World} {vp vt : Value} {ps : List Pl} {l : List (Tr × Value × Value × Value)} {X : Row}

/-- a cell of a row stored -/
theorem AllOwn.storeAt {pre post : List Row} {r : Row} {b c : Nat} (h : AllOwn B w (pre ++ r :: post)) (hv : r.v = .slice (some ⟨b, 0, none⟩) r.n c) (j : Nat) (y : Value) {r' : Row} (h1 : r'.e = r.e) (h2 : r'.size = r.size) (h3 : r'.v = r.v) (h4 : r'.n = r.n) (h5 : r'.xs = r.xs.set j y) :
    AllOwn B (w.setCell ⟨b, j, none⟩ y) (pre ++ r' :: post) ∧ Kept (fun k => k = b) w (w.setCell ⟨b, j, none⟩ y) := by
  have ho := h.own r (by simp)
  have ho' : w.ownsRow B r.e r.size (.slice (some ⟨b, 0, none⟩) r.n c) r.n r.xs := by rw [← hv]; exact ho
  obtain ⟨g1, hg⟩ := World.ownsRow.stored ho' j y
  have hk : Kept (fun k => r.v.ownBlock = some k) w (w.setCell ⟨b, j, none⟩ y) := (Kept.refl _ w).grown hg (fun k e => by rw [hv, ← e]; rfl)
  refine ⟨h.swap hk (r' := r') ?_ (.inl (by rw [h3])), hk.mono (fun k _ e => by rw [hv] at e; injection e with e; exact e.symm)⟩
  show World.ownsRow _ B r'.e r'.size r'.v r'.n r'.xs
  rw [h1, h2, h3, h4, h5, hv]
  exact g1

theorem AllOwn.storePl {b c : Nat} (h : AllOwn B w (X :: netRows vp vt ps l)) (hv : vp = .slice (some ⟨b, 0, none⟩) ps.length c) {i j : Nat} {p p' : Pl} {y : Value} (hi : ps[i]? = some p) (hj : j < 2) (hp : plL p' = (plL p).set j y) :
    AllOwn B (w.setCell ⟨b, i * 2 + j, none⟩ y) (X :: netRows vp vt (ps.set i p') l) ∧ Kept (fun k => k = b) w (w.setCell ⟨b, i * 2 + j, none⟩ y) :=
  AllOwn.storeAt (pre := [X]) (r := plRow vp ps) (post := trRow vt l :: l.flatMap arcRows) (r' := plRow vp (ps.set i p')) h hv (i * 2 + j) y rfl rfl rfl (by simp [plRow]) (flat_set plL_len ps i j p p' y hi hj hp).symm

theorem arcRows_set {i : Nat} {x x' : Tr × Value × Value × Value} (hi : l[i]? = some x) (hx : arcRows x' = arcRows x) : (l.set i x').flatMap arcRows = l.flatMap arcRows := by
  obtain ⟨e1, e2⟩ := set_split hi x'
  rw [e2]
  conv => rhs; rw [e1]
  rw [List.flatMap_append, List.flatMap_append, List.flatMap_cons, List.flatMap_cons, hx]

theorem AllOwn.storeTr {b c : Nat} (h : AllOwn B w (X :: netRows vp vt ps l)) (hv : vt = .slice (some ⟨b, 0, none⟩) l.length c) {i j : Nat} {x x' : Tr × Value × Value × Value} {y : Value} (hi : l[i]? = some x) (hj : j < 6) (hp : trL x' = (trL x).set j y) (hx : arcRows x' = arcRows x) :
    AllOwn B (w.setCell ⟨b, i * 6 + j, none⟩ y) (X :: netRows vp vt ps (l.set i x')) ∧ Kept (fun k => k = b) w (w.setCell ⟨b, i * 6 + j, none⟩ y) := by
  have := AllOwn.storeAt (pre := [X, plRow vp ps]) (r := trRow vt l) (post := l.flatMap arcRows) (r' := trRow vt (l.set i x')) h hv (i * 6 + j) y rfl rfl rfl (by simp [trRow]) (flat_set trL_len l i j x x' y hi hj hp).symm
  rw [← arcRows_set hi hx] at this
  exact this

/-- the rows, around those of one transition -/
theorem netRows_at {i : Nat} {x x' : Tr × Value × Value × Value} (hi : l[i]? = some x) (ht : trL x' = trL x) :
    X :: netRows vp vt ps l = (X :: plRow vp ps :: trRow vt l :: (l.take i).flatMap arcRows) ++ (arcRows x ++ (l.drop (i + 1)).flatMap arcRows) ∧
    X :: netRows vp vt ps (l.set i x') = (X :: plRow vp ps :: trRow vt l :: (l.take i).flatMap arcRows) ++ (arcRows x' ++ (l.drop (i + 1)).flatMap arcRows) := by
  obtain ⟨e1, e2⟩ := set_split hi x'
  have f1 : l.flatMap arcRows = (l.take i).flatMap arcRows ++ (arcRows x ++ (l.drop (i + 1)).flatMap arcRows) := by
    conv => lhs; rw [e1]
    rw [List.flatMap_append, List.flatMap_cons]
  have f2 : (l.set i x').flatMap arcRows = (l.take i).flatMap arcRows ++ (arcRows x' ++ (l.drop (i + 1)).flatMap arcRows) := by
    rw [e2, List.flatMap_append, List.flatMap_cons]
  have f3 : trRow vt (l.set i x') = trRow vt l := by
    unfold trRow
    have g : (l.set i x').flatMap trL = l.flatMap trL := by
      rw [e2]
      conv => rhs; rw [e1]
      rw [List.flatMap_append, List.flatMap_append, List.flatMap_cons, List.flatMap_cons, ht]
    rw [g, List.length_set]
  unfold netRows
  rw [f1, f2, f3]
  exact ⟨by simp, by simp⟩

/-- a cell of an arc of the first list -/
theorem AllOwn.storeIn {b c : Nat} {t t' : Tr} {v1 v2 v3 : Value} (h : AllOwn B w (X :: netRows vp vt ps l)) {i q j : Nat} {a a' : Int × Int} {y : Value} (hi : l[i]? = some (t, v1, v2, v3)) (hv : v1 = .slice (some ⟨b, 0, none⟩) t.inn.length c) (hq : t.inn[q]? = some a) (hj : j < 2) (ha : arcL a' = (arcL a).set j y)
    (ht : t' = ⟨t.name, t.delay, t.prio, t.inn.set q a', t.nt, t.out⟩) :
    AllOwn B (w.setCell ⟨b, q * 2 + j, none⟩ y) (X :: netRows vp vt ps (l.set i (t', v1, v2, v3))) ∧ Kept (fun k => k = b) w (w.setCell ⟨b, q * 2 + j, none⟩ y) := by
  obtain ⟨e1, e2⟩ := netRows_at (X := X) (vp := vp) (vt := vt) (ps := ps) (x' := (t', v1, v2, v3)) hi (by subst ht; rfl)
  rw [e1] at h
  rw [e2]
  have hh : (arcRows (t, v1, v2, v3) ++ (l.drop (i + 1)).flatMap arcRows) = arcRow v1 t.inn :: (arcRow v2 t.nt :: arcRow v3 t.out :: (l.drop (i + 1)).flatMap arcRows) := rfl
  have hh' : (arcRows (t', v1, v2, v3) ++ (l.drop (i + 1)).flatMap arcRows) = arcRow v1 (t.inn.set q a') :: (arcRow v2 t.nt :: arcRow v3 t.out :: (l.drop (i + 1)).flatMap arcRows) := by subst ht; rfl
  rw [hh] at h
  rw [hh']
  exact AllOwn.storeAt (r' := arcRow v1 (t.inn.set q a')) h hv (q * 2 + j) y rfl rfl rfl (by simp [arcRow]) (flat_set arcL_len t.inn q j a a' y hq hj ha).symm
end
end Go.Proofs.Ytpbbdnicafifpaa

/-! ## NetIn -/
namespace Go.Proofs.Ytpbbdnicafifpaa
open Go.RowKit Go.ChangeShapes Go.WideShapes Go.Deep Go.Joins
set_option linter.unusedVariables false
set_option maxRecDepth 100000

section
variable {H : Type} {enc : TypeId × Value → H} {w : World}

/-- a slice that came in, element by element -/
theorem row_in {α : Type} {f : α → List Value} {k : Nat} (hf : ∀ a, (f a).length = k) (hk : 0 < k) {T E : TypeId} (hT : Try.prog.underlying T = some (.slice E)) (hC : Try.prog.cellsOf E = k) {R : α → Prop} (inh : α)
    (dec : ∀ n cs x, DataW.trod enc Try.prog w 0 (fun _ => true) true n E cs = some x → ∃ a, cs = f a ∧ R a) {fuel : Nat} {v : Value} {x : DataW H × List MemPlace} (h : DataW.trod enc Try.prog w 0 (fun _ => true) true fuel T [v] = some x) :
    ∃ ls : List α, RowAt k w v ls.length (ls.flatMap f) ∧ ∀ a ∈ ls, R a := by
  rcases open_slice hT h with ⟨hcs, _⟩ | ⟨ad, len, cap, m, n, D, Pl, hcs, _, hl, hm, hmm, _, hi⟩
  · injection hcs with hcs
    subst hcs
    exact ⟨[], RowAt.nil _ _, fun a ha => by cases ha⟩
  · injection hcs with hcs
    subst hcs
    rw [hC] at hi
    have hd : ∀ i, ∃ a : α, i < len → (∀ j, j < k → w.cell? (ad.add (i * k + j)) = (f a)[j]?) ∧ R a := by
      intro i
      by_cases hlt : i < len
      · obtain ⟨cs', hc, ht⟩ := hi i (by rw [hmm]; simp; omega)
        obtain ⟨a, rfl, hR⟩ := dec _ _ _ ht
        obtain ⟨_, _, hat⟩ := World.cells?_some hc
        exact ⟨a, fun _ => ⟨fun j hj => by rw [← Go.Deep.add_add]; exact hat j hj, hR⟩⟩
      · exact ⟨inh, fun h => absurd h hlt⟩
    obtain ⟨g, hg⟩ : ∃ g : Nat → α, ∀ i, i < len → (∀ j, j < k → w.cell? (ad.add (i * k + j)) = (f (g i))[j]?) ∧ R (g i) := ⟨fun i => Classical.choose (hd i), fun i => Classical.choose_spec (hd i)⟩
    have el : ((List.range len).map g).length = len := by simp
    refine ⟨(List.range len).map g, ⟨flat_len hf _, some ad, cap, by rw [el], by rw [el]; exact hl, hm, ?_⟩, fun a ha => ?_⟩
    · by_cases h0 : len = 0
      · left; rw [el]; exact h0
      · right
        have hat0 := (hg 0 (by omega)).1 0 hk
        have hl0 : (f (g 0))[0]? = some ((f (g 0))[0]'(by rw [hf]; exact hk)) := List.getElem?_eq_getElem _
        rw [hl0] at hat0
        obtain ⟨b, off, spot⟩ := ad
        have hspot : spot = none := by simpa [Addr.add] using World.cell?_spot hat0
        subst hspot
        have hblk : b < w.heap.size := by
          have := World.block_lt_of_cell? w _ hat0
          simpa [Addr.add] using this
        refine ⟨b, off, rfl, hblk, fun j y hj => ?_⟩
        have hjl := lt_at hj
        rw [flat_len hf, el] at hjl
        have hq : j / k < len := Nat.div_lt_of_lt_mul (by rw [Nat.mul_comm]; exact hjl)
        have hr : j % k < k := Nat.mod_lt _ hk
        have hdm : j / k * k + j % k = j := by have := Nat.div_add_mod j k; rw [Nat.mul_comm] at this; exact this
        have hget : ((List.range len).map g)[j / k]? = some (g (j / k)) := by simp [hq]
        have e1 := flat_at hf ((List.range len).map g) (j / k) (j % k) _ hget hr
        rw [hdm, hj] at e1
        have e2 := (hg (j / k) hq).1 (j % k) hr
        rw [← e1, hdm, Go.WideShapes.add_plain] at e2
        exact e2
    · rw [List.mem_map] at ha
      obtain ⟨i, hi2, rfl⟩ := ha
      exact (hg i (by simpa using hi2)).2

theorem cellsInt : Try.prog.cellsOf 3 = 1 := by kernel_rfl
theorem cellsStr : Try.prog.cellsOf 9 = 1 := by kernel_rfl
theorem cellsArcs : Try.prog.cellsOf 77 = 1 := by kernel_rfl
theorem cellsArc : Try.prog.cellsOf 76 = 2 := by kernel_rfl
theorem cellsPlace : Try.prog.cellsOf 57 = 2 := by kernel_rfl
theorem cellsTrans : Try.prog.cellsOf 79 = 6 := by kernel_rfl

theorem arc_dec (n : Nat) (cs : List Value) (x : DataW H × List MemPlace) (h : DataW.trod enc Try.prog w 0 (fun _ => true) true n 76 cs = some x) : ∃ a, cs = arcL a ∧ True := by
  obtain ⟨xs, m, _, _, hl, hx, hg⟩ := DataW.trod_struct Try.underlying76 h
  have h0 : DataW.trod enc Try.prog w 0 (fun _ => true) true m 3 ((cs.drop 0).take (Try.prog.cellsOf 3)) = xs[0]? := hg 0 _ rfl
  have h1 : DataW.trod enc Try.prog w 0 (fun _ => true) true m 3 ((cs.drop 1).take (Try.prog.cellsOf 3)) = xs[1]? := hg 1 _ rfl
  rw [cellsArc] at hl
  match cs, hl with
  | [c0, c1], _ =>
    simp only [cellsInt, List.drop_zero, List.take_succ_cons, List.take_zero, List.drop_succ_cons] at h0 h1
    rw [List.getElem?_eq_getElem (by rw [hx]; simp)] at h0 h1
    obtain ⟨a0, e0, _, _⟩ := DataW.trod_int Try.underlying3 h0
    obtain ⟨a1, e1, _, _⟩ := DataW.trod_int Try.underlying3 h1
    simp at e0 e1
    subst e0 e1
    exact ⟨(a0, a1), rfl, trivial⟩

theorem place_dec (n : Nat) (cs : List Value) (x : DataW H × List MemPlace) (h : DataW.trod enc Try.prog w 0 (fun _ => true) true n 57 cs = some x) : ∃ a, cs = plL a ∧ True := by
  obtain ⟨xs, m, _, _, hl, hx, hg⟩ := DataW.trod_struct Try.underlying57 h
  have h0 : DataW.trod enc Try.prog w 0 (fun _ => true) true m 9 ((cs.drop 0).take (Try.prog.cellsOf 9)) = xs[0]? := hg 0 _ rfl
  have h1 : DataW.trod enc Try.prog w 0 (fun _ => true) true m 3 ((cs.drop 1).take (Try.prog.cellsOf 3)) = xs[1]? := hg 1 _ rfl
  rw [cellsPlace] at hl
  match cs, hl with
  | [c0, c1], _ =>
    simp only [cellsInt, cellsStr, List.drop_zero, List.take_succ_cons, List.take_zero, List.drop_succ_cons] at h0 h1
    rw [List.getElem?_eq_getElem (by rw [hx]; simp)] at h0 h1
    obtain ⟨a0, e0, _, _⟩ := DataW.trod_string Try.underlying9 h0
    obtain ⟨a1, e1, _, _⟩ := DataW.trod_int Try.underlying3 h1
    simp at e0 e1
    subst e0 e1
    exact ⟨⟨a0, a1⟩, rfl, trivial⟩

theorem arcs_in {fuel : Nat} {v : Value} {x : DataW H × List MemPlace} (h : DataW.trod enc Try.prog w 0 (fun _ => true) true fuel 77 [v] = some x) : ∃ l, ArcsAt w v l := by
  obtain ⟨l, h1, _⟩ := row_in arcL_len (by omega) Try.underlying77 cellsArc (0, 0) (fun n cs x => arc_dec n cs x) h
  exact ⟨l, h1⟩

theorem trans_dec (n : Nat) (cs : List Value) (x : DataW H × List MemPlace) (h : DataW.trod enc Try.prog w 0 (fun _ => true) true n 79 cs = some x) :
    ∃ a, cs = trL a ∧ (ArcsAt w a.2.1 a.1.inn ∧ ArcsAt w a.2.2.1 a.1.nt ∧ ArcsAt w a.2.2.2 a.1.out) := by
  obtain ⟨xs, m, _, _, hl, hx, hg⟩ := DataW.trod_struct Try.underlying79 h
  have h0 : DataW.trod enc Try.prog w 0 (fun _ => true) true m 9 ((cs.drop 0).take (Try.prog.cellsOf 9)) = xs[0]? := hg 0 _ rfl
  have h1 : DataW.trod enc Try.prog w 0 (fun _ => true) true m 3 ((cs.drop 1).take (Try.prog.cellsOf 3)) = xs[1]? := hg 1 _ rfl
  have h2 : DataW.trod enc Try.prog w 0 (fun _ => true) true m 3 ((cs.drop 2).take (Try.prog.cellsOf 3)) = xs[2]? := hg 2 _ rfl
  have h3 : DataW.trod enc Try.prog w 0 (fun _ => true) true m 77 ((cs.drop 3).take (Try.prog.cellsOf 77)) = xs[3]? := hg 3 _ rfl
  have h4 : DataW.trod enc Try.prog w 0 (fun _ => true) true m 77 ((cs.drop 4).take (Try.prog.cellsOf 77)) = xs[4]? := hg 4 _ rfl
  have h5 : DataW.trod enc Try.prog w 0 (fun _ => true) true m 77 ((cs.drop 5).take (Try.prog.cellsOf 77)) = xs[5]? := hg 5 _ rfl
  rw [cellsTrans] at hl
  match cs, hl with
  | [c0, c1, c2, c3, c4, c5], _ =>
    simp only [cellsInt, cellsStr, cellsArcs, List.drop_zero, List.take_succ_cons, List.take_zero, List.drop_succ_cons] at h0 h1 h2 h3 h4 h5
    rw [List.getElem?_eq_getElem (by rw [hx]; simp)] at h0 h1 h2 h3 h4 h5
    obtain ⟨a0, e0, _, _⟩ := DataW.trod_string Try.underlying9 h0
    obtain ⟨a1, e1, _, _⟩ := DataW.trod_int Try.underlying3 h1
    obtain ⟨a2, e2, _, _⟩ := DataW.trod_int Try.underlying3 h2
    obtain ⟨l3, g3⟩ := arcs_in h3
    obtain ⟨l4, g4⟩ := arcs_in h4
    obtain ⟨l5, g5⟩ := arcs_in h5
    simp at e0 e1 e2
    subst e0 e1 e2
    exact ⟨(⟨a0, a1, a2, l3, l4, l5⟩, c3, c4, c5), rfl, g3, g4, g5⟩

theorem net_in {n m : Nat} {vp vt : Value} {x y : DataW H × List MemPlace} (hp : DataW.trod enc Try.prog w 0 (fun _ => true) true n 28 [vp] = some x) (ht : DataW.trod enc Try.prog w 0 (fun _ => true) true m 29 [vt] = some y) :
    ∃ (N : Nt) (ap at_ : Option Addr) (cp ct : Nat), vp = .slice ap N.places.length cp ∧ vt = .slice at_ N.trans.length ct ∧ NetAt w vp vt N := by
  obtain ⟨ls, h1, _⟩ := row_in plL_len (by omega) Try.underlying28 cellsPlace ⟨⟨#[]⟩, 0⟩ (fun n cs x => place_dec n cs x) hp
  obtain ⟨lt, h2, h3⟩ := row_in trL_len (by omega) Try.underlying29 cellsTrans (⟨⟨#[]⟩, 0, 0, [], [], []⟩, .bool true, .bool true, .bool true) (fun n cs x => trans_dec n cs x) ht
  obtain ⟨ap, cp, e1⟩ := h1.len
  obtain ⟨at_, ct, e2⟩ := h2.len
  exact ⟨⟨ls, lt.map (·.1)⟩, ap, at_, cp, ct, e1, by rw [List.length_map]; exact e2, h1, lt, rfl, h2, h3⟩

end

end Go.Proofs.Ytpbbdnicafifpaa

/-! ## NearM -/
namespace Go.Proofs.Ytpbbdnicafifpaa
open Go.RowKit
set_option linter.unusedVariables false
set_option maxRecDepth 100000

theorem RowAt.src {size n : Nat} {w : World} {v : Value} {xs : List Value} (h : RowAt size w v n xs) {tx e : TypeId} (ht : Try.prog.underlying tx = some (.slice e)) (h1 : ∀ u ∈ xs, u.oneCell' = true) : Src Try.prog size tx v n xs w := by
  obtain ⟨hl, a, cap, rfl, _, _, h3⟩ := h
  rcases h3 with h0 | ⟨b, off, rfl, hb, hc⟩
  · subst h0
    have : xs = [] := List.eq_nil_of_length_eq_zero (by simpa using hl)
    subst this
    cases a with
    | none => exact Src.ofNil w ht cap
    | some a => exact Src.ofSlice w ht a 0 cap [] (by simp) (fun j u hu => by simp at hu) h1
  · refine Src.ofSlice w ht ⟨b, off, none⟩ n cap xs hl ?_ h1
    intro j u hu
    have e2 : (⟨b, off, none⟩ : Addr).add j = ⟨b, off + j, none⟩ := by unfold Addr.add; split <;> simp_all
    rw [e2]
    exact hc j u hu

theorem arcs_one (l : List (Int × Int)) : ∀ u ∈ l.flatMap arcL, u.oneCell' = true := by
  intro u hu
  rw [List.mem_flatMap] at hu
  obtain ⟨a, _, ha⟩ := hu
  simp only [arcL, List.mem_cons, List.not_mem_nil, or_false] at ha
  rcases ha with rfl | rfl <;> rfl

/-- 'append(v, x...)', v a row of the call's own -/
theorem run_append_arcs {B : Nat} {w : World} {v x : Value} {l k : List (Int × Int)} (ty : TypeId) (h : OwnA B w v l) (hx : ArcsAt w x k) (hl : l.length + k.length ≤ 1000000) (hB : B ≤ w.heap.size) :
    ∃ v' w', (Builtin.append_ #[77, 77] ty #[v, x]).run Try.prog w = .ok v' w' ∧ OwnA B w' v' (l ++ k) ∧ Kept (fun q => v.ownBlock = some q) w w' := by
  obtain ⟨i0, hi0, hz0, hz1, hz2⟩ := info_parts Try.infoArc
  obtain ⟨v', w', hr, h2, h3⟩ := run_append_own_src (P := Try.prog) w B 77 77 ty 76 i0 _ 2 16 Try.underlying77 hi0 hz0 hz1 hz2 rfl (by omega) v l.length (l.flatMap arcL) h x k.length (k.flatMap arcL) (RowAt.src hx Try.underlying77 (arcs_one k)) (by unfold maxLen; omega) (by omega) hB
  exact ⟨v', w', hr, by rw [OwnA, List.flatMap_append, List.length_append]; exact h2, (Kept.refl _ w).grown h3 (fun _ h => h)⟩

/-- 'append([]Arc(nil), x...)': new, and nothing else turned -/
theorem run_clone_arcs {w : World} {x : Value} {k : List (Int × Int)} (ty : TypeId) (hx : ArcsAt w x k) (hl : k.length ≤ 1000000) :
    ∃ v' w', (Builtin.append_ #[77, 77] ty #[.slice none 0 0, x]).run Try.prog w = .ok v' w' ∧ OwnA w.heap.size w' v' k ∧ Below w.heap.size w w' := by
  obtain ⟨v', w', hr, h2, h3⟩ := run_append_arcs (B := w.heap.size) ty (l := []) (ownNil _ _ _ _) hx (by simpa using hl) (Nat.le_refl _)
  exact ⟨v', w', hr, by simpa using h2, h3.below (fun k e => by cases e) (Nat.le_refl _)⟩

section
variable {B : Nat} {w w' : World} {r r' : Row} {pre post : List Row}

/-- a row is put in another one's place: what it is of lies where that was, or is new -/
theorem AllOwn.swap2 (h : AllOwn B w (pre ++ r :: post)) (hk : Kept (fun k => r.v.ownBlock = some k) w w') (hr : r'.own B w') (hf : ∀ k, r'.v.ownBlock = some k → r.v.ownBlock = some k ∨ w.heap.size ≤ k) :
    AllOwn B w' (pre ++ r' :: post) := by
  have hp := h.apart
  rw [List.pairwise_append, List.pairwise_cons] at hp
  obtain ⟨p1, ⟨p2, p3⟩, p4⟩ := hp
  have hx : ∀ x : Row, x.own B w → Apart x r → x.own B w' := fun x hx ha => ownS hx hk (fun k h1 h2 => ha k h1 h2)
  have hn : ∀ x : Row, x.own B w → Apart x r → Apart x r' := by
    intro x hx ha k h1 h2
    rcases hf k h2 with e | e
    · exact ha k h1 e
    · have := (Row.lt hx h1).2; omega
  refine ⟨fun x hm => ?_, ?_⟩
  · rw [List.mem_append, List.mem_cons] at hm
    rcases hm with hm | rfl | hm
    · exact hx x (h.own x (by simp [hm])) (p4 x hm r (by simp))
    · exact hr
    · exact hx x (h.own x (by simp [hm])) (p2 x hm).symm
  · rw [List.pairwise_append, List.pairwise_cons]
    refine ⟨p1, ⟨fun x hm => (hn x (h.own x (by simp [hm])) (p2 x hm).symm).symm, p3⟩, fun a ha b hb => ?_⟩
    rw [List.mem_cons] at hb
    rcases hb with rfl | hb
    · exact hn a (h.own a (by simp [ha])) (p4 a ha r (by simp))
    · exact p4 a ha b (by simp [hb])
end

section
variable {B : Nat} {w w2 : World} {vp vt : Value} {ps : List Pl} {l : List (Tr × Value × Value × Value)} {X : Row}

/-- a new list in place of the third one -/
theorem AllOwn.newOut {b c : Nat} {t : Tr} {v1 v2 v3 u : Value} {out' : List (Int × Int)} (h : AllOwn B w (X :: netRows vp vt ps l)) (hv : vt = .slice (some ⟨b, 0, none⟩) l.length c) {i : Nat} (hi : l[i]? = some (t, v1, v2, v3)) (hB : B ≤ w.heap.size) (hb : Below w.heap.size w w2) (hu : OwnA w.heap.size w2 u out') :
    AllOwn B (w2.setCell ⟨b, i * 6 + 5, none⟩ u) (X :: netRows vp vt ps (l.set i (⟨t.name, t.delay, t.prio, t.inn, t.nt, out'⟩, v1, v2, u))) ∧ Kept (fun k => k = b) w2 (w2.setCell ⟨b, i * 6 + 5, none⟩ u) := by
  obtain ⟨e1, _⟩ := netRows_at (X := X) (vp := vp) (vt := vt) (ps := ps) (x' := (t, v1, v2, v3)) hi rfl
  rw [e1] at h
  have h1 : AllOwn B w2 ((X :: plRow vp ps :: trRow vt l :: (l.take i).flatMap arcRows ++ [arcRow v1 t.inn, arcRow v2 t.nt]) ++ arcRow u out' :: (l.drop (i + 1)).flatMap arcRows) :=
    AllOwn.swap2 (r := arcRow v3 t.out) (by simpa [arcRows] using h) (Kept.of_below hb) (own_mono hu hB) (fun k e => .inr (Row.lt (r := arcRow u out') hu e).1)
  have h2 := AllOwn.storeAt (pre := [X, plRow vp ps]) (r := trRow vt l) (post := (l.take i).flatMap arcRows ++ (arcRow v1 t.inn :: arcRow v2 t.nt :: arcRow u out' :: (l.drop (i + 1)).flatMap arcRows)) (r' := trRow vt (l.set i (⟨t.name, t.delay, t.prio, t.inn, t.nt, out'⟩, v1, v2, u))) (by simpa using h1) hv (i * 6 + 5) u rfl rfl rfl (by simp [trRow])
    (flat_set trL_len l i 5 (t, v1, v2, v3) (⟨t.name, t.delay, t.prio, t.inn, t.nt, out'⟩, v1, v2, u) u hi (by omega) rfl).symm
  refine ⟨?_, h2.2⟩
  have e2 : (l.set i (⟨t.name, t.delay, t.prio, t.inn, t.nt, out'⟩, v1, v2, u)).flatMap arcRows = (l.take i).flatMap arcRows ++ (arcRow v1 t.inn :: arcRow v2 t.nt :: arcRow u out' :: (l.drop (i + 1)).flatMap arcRows) := by
    rw [(set_split hi _).2, List.flatMap_append, List.flatMap_cons]; rfl
  unfold netRows
  rw [e2]
  exact h2.1

/-- a new list in place of the second one -/
theorem AllOwn.newNot {b c : Nat} {t : Tr} {v1 v2 v3 u : Value} {nt' : List (Int × Int)} (h : AllOwn B w (X :: netRows vp vt ps l)) (hv : vt = .slice (some ⟨b, 0, none⟩) l.length c) {i : Nat} (hi : l[i]? = some (t, v1, v2, v3)) (hB : B ≤ w.heap.size) (hb : Below w.heap.size w w2) (hu : OwnA w.heap.size w2 u nt') :
    AllOwn B (w2.setCell ⟨b, i * 6 + 4, none⟩ u) (X :: netRows vp vt ps (l.set i (⟨t.name, t.delay, t.prio, t.inn, nt', t.out⟩, v1, u, v3))) ∧ Kept (fun k => k = b) w2 (w2.setCell ⟨b, i * 6 + 4, none⟩ u) := by
  obtain ⟨e1, _⟩ := netRows_at (X := X) (vp := vp) (vt := vt) (ps := ps) (x' := (t, v1, v2, v3)) hi rfl
  rw [e1] at h
  have h1 : AllOwn B w2 ((X :: plRow vp ps :: trRow vt l :: (l.take i).flatMap arcRows ++ [arcRow v1 t.inn]) ++ arcRow u nt' :: (arcRow v3 t.out :: (l.drop (i + 1)).flatMap arcRows)) :=
    AllOwn.swap2 (r := arcRow v2 t.nt) (by simpa [arcRows] using h) (Kept.of_below hb) (own_mono hu hB) (fun k e => .inr (Row.lt (r := arcRow u nt') hu e).1)
  have h2 := AllOwn.storeAt (pre := [X, plRow vp ps]) (r := trRow vt l) (post := (l.take i).flatMap arcRows ++ (arcRow v1 t.inn :: arcRow u nt' :: arcRow v3 t.out :: (l.drop (i + 1)).flatMap arcRows)) (r' := trRow vt (l.set i (⟨t.name, t.delay, t.prio, t.inn, nt', t.out⟩, v1, u, v3))) (by simpa using h1) hv (i * 6 + 4) u rfl rfl rfl (by simp [trRow])
    (flat_set trL_len l i 4 (t, v1, v2, v3) (⟨t.name, t.delay, t.prio, t.inn, nt', t.out⟩, v1, u, v3) u hi (by omega) rfl).symm
  refine ⟨?_, h2.2⟩
  have e2 : (l.set i (⟨t.name, t.delay, t.prio, t.inn, nt', t.out⟩, v1, u, v3)).flatMap arcRows = (l.take i).flatMap arcRows ++ (arcRow v1 t.inn :: arcRow u nt' :: arcRow v3 t.out :: (l.drop (i + 1)).flatMap arcRows) := by
    rw [(set_split hi _).2, List.flatMap_append, List.flatMap_cons]; rfl
  unfold netRows
  rw [e2]
  exact h2.1
end

section
open Go.ChangeShapes Go.WideShapes Go.Deep Go.Joins
variable {H : Type} {enc : TypeId × Value → H} {w : World}

theorem cellsU8 : Try.prog.cellsOf 5 = 1 := by kernel_rfl
theorem cellsAct : Try.prog.cellsOf 89 = 7 := by kernel_rfl

theorem u8_nat {n : Int} (h : (Lit.int .u8 n).wf = true) : ∃ k : Nat, n = k ∧ k < 256 := by
  obtain ⟨h1, h2⟩ := bounds_u8 h
  exact ⟨n.toNat, by omega, by omega⟩

theorem tok_dec (n : Nat) (cs : List Value) (x : DataW H × List MemPlace) (h : DataW.trod enc Try.prog w 0 (fun _ => true) true n 5 cs = some x) : ∃ a, cs = tokL1 a ∧ a < 256 := by
  obtain ⟨a, rfl, _, hw⟩ := DataW.trod_int Try.underlying5 h
  obtain ⟨k, rfl, hk⟩ := u8_nat hw
  exact ⟨k, rfl, hk⟩

theorem act_dec (n : Nat) (cs : List Value) (x : DataW H × List MemPlace) (h : DataW.trod enc Try.prog w 0 (fun _ => true) true n 89 cs = some x) : ∃ a, cs = acL a ∧ a.ok := by
  obtain ⟨xs, m, _, _, hl, hx, hg⟩ := DataW.trod_struct Try.underlying89 h
  have h0 : DataW.trod enc Try.prog w 0 (fun _ => true) true m 5 ((cs.drop 0).take (Try.prog.cellsOf 5)) = xs[0]? := hg 0 _ rfl
  have h1 : DataW.trod enc Try.prog w 0 (fun _ => true) true m 5 ((cs.drop 1).take (Try.prog.cellsOf 5)) = xs[1]? := hg 1 _ rfl
  have h2 : DataW.trod enc Try.prog w 0 (fun _ => true) true m 5 ((cs.drop 2).take (Try.prog.cellsOf 5)) = xs[2]? := hg 2 _ rfl
  have h3 : DataW.trod enc Try.prog w 0 (fun _ => true) true m 5 ((cs.drop 3).take (Try.prog.cellsOf 5)) = xs[3]? := hg 3 _ rfl
  have h4 : DataW.trod enc Try.prog w 0 (fun _ => true) true m 5 ((cs.drop 4).take (Try.prog.cellsOf 5)) = xs[4]? := hg 4 _ rfl
  have h5 : DataW.trod enc Try.prog w 0 (fun _ => true) true m 5 ((cs.drop 5).take (Try.prog.cellsOf 5)) = xs[5]? := hg 5 _ rfl
  have h6 : DataW.trod enc Try.prog w 0 (fun _ => true) true m 5 ((cs.drop 6).take (Try.prog.cellsOf 5)) = xs[6]? := hg 6 _ rfl
  rw [cellsAct] at hl
  match cs, hl with
  | [c0, c1, c2, c3, c4, c5, c6], _ =>
    simp only [cellsU8, List.drop_zero, List.take_succ_cons, List.take_zero, List.drop_succ_cons] at h0 h1 h2 h3 h4 h5 h6
    rw [List.getElem?_eq_getElem (by rw [hx]; simp)] at h0 h1 h2 h3 h4 h5 h6
    obtain ⟨a0, e0, _, w0⟩ := DataW.trod_int Try.underlying5 h0
    obtain ⟨a1, e1, _, w1⟩ := DataW.trod_int Try.underlying5 h1
    obtain ⟨a2, e2, _, w2⟩ := DataW.trod_int Try.underlying5 h2
    obtain ⟨a3, e3, _, w3⟩ := DataW.trod_int Try.underlying5 h3
    obtain ⟨a4, e4, _, w4⟩ := DataW.trod_int Try.underlying5 h4
    obtain ⟨a5, e5, _, w5⟩ := DataW.trod_int Try.underlying5 h5
    obtain ⟨a6, e6, _, w6⟩ := DataW.trod_int Try.underlying5 h6
    simp at e0 e1 e2 e3 e4 e5 e6
    obtain ⟨k0, rfl, q0⟩ := u8_nat w0
    obtain ⟨k1, rfl, q1⟩ := u8_nat w1
    obtain ⟨k2, rfl, q2⟩ := u8_nat w2
    obtain ⟨k3, rfl, q3⟩ := u8_nat w3
    obtain ⟨k4, rfl, q4⟩ := u8_nat w4
    obtain ⟨k5, rfl, q5⟩ := u8_nat w5
    obtain ⟨k6, rfl, q6⟩ := u8_nat w6
    subst e0 e1 e2 e3 e4 e5 e6
    exact ⟨⟨k0, k1, k2, k3, k4, k5, k6⟩, rfl, q0, q1, q2, q3, q4, q5, q6⟩

theorem draft_in {n m : Nat} {vt va : Value} {x y : DataW H × List MemPlace} (hp : DataW.trod enc Try.prog w 0 (fun _ => true) true n 22 [vt] = some x) (ht : DataW.trod enc Try.prog w 0 (fun _ => true) true m 23 [va] = some y) :
    ∃ (ts : List Nat) (acs : List Ac) (aT aA : Option Addr) (cT cA : Nat), vt = .slice aT ts.length cT ∧ va = .slice aA acs.length cA ∧ DraftAt w vt va ts acs := by
  obtain ⟨ts, h1, g1⟩ := row_in tokL1_len (by omega) Try.underlying22 cellsU8 0 (fun n cs x => tok_dec n cs x) hp
  obtain ⟨acs, h2, g2⟩ := row_in acL_len (by omega) Try.underlying23 cellsAct Ac.zero (fun n cs x => act_dec n cs x) ht
  obtain ⟨aT, cT, e1⟩ := h1.len
  obtain ⟨aA, cA, e2⟩ := h2.len
  exact ⟨ts, acs, aT, aA, cT, cA, e1, e2, h1, h2, g1, g2⟩
end
end Go.Proofs.Ytpbbdnicafifpaa
