/-
  A net that the parser comes to may be: the places that are counted ahead are those that are read. What the laws' own comparison of both parsers comes to.
  Conditions: none beyond each theorem's own.
-/
import Derived.Test.YtfiielibnnodkaaPCheck
import Derived.Test.YtfiielibnnodkaaPEqs
import Derived.Test.YtfiielibnnodkaaPUse
import Derived.Test.YtfiielibnnodkaaPAwake
import Derived.Test.YtfiielibnnodkaaNetHand
/-! ## PEat -/
namespace Go.Proofs.Ytfiielibnnodkaa
set_option linter.unusedVariables false

theorem sEq_refl' (s : ByteArray) : sEq s s = true := by simp [sEq]

/-- what lies between names no place -/
def Eat (a b : List Tok) : Prop := ∀ acc, numsG acc a = numsG acc b
theorem Eat.refl (a : List Tok) : Eat a a := fun _ => rfl
theorem Eat.trans {a b c : List Tok} (h : Eat a b) (k : Eat b c) : Eat a c := fun acc => (h acc).trans (k acc)

section
variable {a : List Tok}

theorem eat_one (hg : Good a) (h : ¬ ((hd a).text = wPlace ∧ (hd a.tail).kind = 1)) : Eat a a.tail := by
  intro acc
  obtain ⟨r, e, e2⟩ := hg.cons
  generalize hd a = t at e h
  subst e
  rw [numsG, if_neg (fun e => h ⟨e.1, e.2.1⟩)]
  rfl
theorem eat_text (hg : Good a) (h : (hd a).text ≠ wPlace) : Eat a a.tail := eat_one hg (fun e => h e.1)
theorem AllTok.tail (h : AllTok a) : AllTok a.tail := fun t ht => h t (List.mem_of_mem_tail ht)
theorem AllTok.suf {b : List Tok} (h : AllTok a) (hs : b <:+ a) : AllTok b := fun t ht => h t (hs.subset ht)
theorem alltok_hd0 (h : AllTok a) (hg : Good a) : ((hd a).kind = 0 ∧ (hd a).text = []) ∨ TokOk (hd a) := by
  have := h.hd (i := 0) (by simpa using hg)
  simpa using this
theorem kind3 (h : AllTok a) (hg : Good a) {s : List UInt8} {c : UInt8} {r : List UInt8} (ht : (hd a).text = s) (hs : s = c :: r) (h1 : isSmall c = false) (h2 : isDigit c = false) : (hd a).kind = 3 := kind_sign (alltok_hd0 h hg) (ht.trans hs) h1 h2
theorem not_word (h : AllTok a) (hg : Good a) (hk : (hd a).kind ≠ 1) : (hd a).text ≠ wPlace := fun e => hk (kind_word (alltok_hd0 h hg) (c := 112) (r := [108, 97, 99, 101]) e (by decide))
theorem eat_kind (h : AllTok a) (hg : Good a) (hk : (hd a).kind ≠ 1) : Eat a a.tail := eat_text hg (not_word h hg hk)

theorem numG_eat (h : AllTok a) (hg : Good a) {s : List UInt8} {c : UInt8} {r : List UInt8} {least : Int} (hs : s = c :: r) (h1 : isSmall c = false) (h2 : isDigit c = false) (he : (numG s least a).2.1 = 0) :
    Eat a (numG s least a).2.2 ∧ ((numG s least a).2.2 = a ∨ (hd a).kind = 3) := by
  unfold numG at he ⊢
  split
  · rename_i ht
    have hk := kind3 h hg ht hs h1 h2
    have hg2 := hg.tailT (by rw [ht, hs]; simp)
    rw [if_pos ht] at he
    split
    · rename_i b; rw [if_pos b] at he; cases he
    · rename_i b
      rw [if_neg b] at he
      split
      · rename_i c'; rw [if_pos c'] at he; cases he
      · have hk2 : (hd a.tail).kind = 2 := Classical.byContradiction b
        exact ⟨(eat_kind h hg (by rw [hk]; decide)).trans (eat_kind h.tail hg2 (by rw [hk2]; decide)), .inr hk⟩
  · exact ⟨Eat.refl _, .inl rfl⟩

theorem arcG_eat {ns : List (List UInt8)} {l : List (Int × Int)} (h : AllTok a) (hg : Good a) (he : (arcG ns l a).2.1 = 0) (hk : (hd (arcG ns l a).2.2).kind ≠ 1) : Eat a (arcG ns l a).2.2 := by
  by_cases h1 : (hd a).kind = 1
  · have hg2 := hg.tailK (by rw [h1]; decide)
    have e : (numG [42] 1 a.tail).2.1 = 0 ∧ (arcG ns l a).2.2 = (numG [42] 1 a.tail).2.2 := by
      unfold arcG at he ⊢
      rw [if_neg (not_not_intro h1)] at he ⊢
      split
      · rename_i b; rw [if_pos b] at he; cases he
      · rename_i b
        rw [if_neg b] at he
        split
        · rename_i c; rw [if_pos c] at he; cases he
        · rename_i c
          rw [if_neg c] at he
          split
          · rename_i d; rw [if_pos d] at he; exact absurd he d
          · rename_i d; exact ⟨Classical.byContradiction d, rfl⟩
    obtain ⟨n1, n2⟩ := numG_eat h.tail hg2 (s := [42]) (least := 1) rfl (by decide) (by decide) e.1
    rw [e.2] at hk ⊢
    refine Eat.trans (eat_one hg (fun q => ?_)) n1
    rcases n2 with n2 | n2
    · rw [n2] at hk; exact hk q.2
    · rw [n2] at q; exact absurd q.2 (by decide)
  · unfold arcG at he
    rw [if_pos h1] at he
    cases he
end

/-- an element's way eats what names no place -/
def EatE (step : LS → LS × Int) : Prop := ∀ y, Good y.ts → AllTok y.ts → (step y).2 = 0 → (hd (step y).1.ts).kind ≠ 1 → Eat y.ts (step y).1.ts

theorem look_eat (ns : List (List UInt8)) : EatE (lookG ns) := by
  intro y hg hT he hk
  unfold lookG at he hk ⊢
  by_cases ht : (hd y.ts).text = [126]
  · rw [if_pos ht] at he hk ⊢
    have h3 := kind3 hT hg ht rfl (by decide) (by decide)
    exact (eat_kind hT hg (by rw [h3]; decide)).trans (arcG_eat hT.tail (hg.tailT (by rw [ht]; simp)) he hk)
  · rw [if_neg ht] at he hk ⊢
    exact arcG_eat hT hg he hk
theorem out_eat (ns : List (List UInt8)) : EatE (outG ns) := fun y hg hT he hk => arcG_eat hT hg he hk

theorem listG_eat {step : LS → LS × Int} (hE : EatE step) (hS : Shrinks step) (f : Nat) : ∀ y, Good y.ts → AllTok y.ts → (listG step f y).2 = 0 → (hd (listG step f y).1.ts).kind ≠ 1 → Eat y.ts (listG step f y).1.ts := by
  induction f with
  | zero => intro y hg hT he; cases he
  | succ f ih =>
    intro y hg hT he hk
    unfold listG at he hk ⊢
    by_cases h1 : (step y).2 = 0
    · rw [if_neg (not_not_intro h1)] at he hk ⊢
      have hr := hS y hg
      have hT2 := hT.suf hr.2.2
      by_cases h2 : (hd (step y).1.ts).text = [44]
      · rw [if_pos h2] at he hk ⊢
        have h3 := kind3 hT2 hr.1 h2 rfl (by decide) (by decide)
        have hr2 := hr.tailT (by rw [h2]; simp)
        exact ((hE y hg hT h1 (by rw [h3]; decide)).trans (eat_kind hT2 hr.1 (by rw [h3]; decide))).trans (ih { (step y).1 with ts := (step y).1.ts.tail } hr2.1 hT2.tail he hk)
      · rw [if_neg h2] at he hk ⊢
        exact hE y hg hT h1 hk
    · rw [if_pos h1] at he
      exact absurd he h1
theorem listTop_eat {step : LS → LS × Int} (hE : EatE step) (hS : Shrinks step) (stop : List UInt8) (y : LS) (hg : Good y.ts) (hT : AllTok y.ts) (he : (listTop step stop y).2 = 0) (hk : (hd (listTop step stop y).1.ts).kind ≠ 1) : Eat y.ts (listTop step stop y).1.ts := by
  unfold listTop at he hk ⊢
  by_cases h1 : (hd y.ts).text = stop
  · rw [if_pos h1]; exact Eat.refl _
  · rw [if_neg h1] at he hk ⊢
    exact listG_eat hE hS _ y hg hT he hk

theorem arcsG_eat {ns : List (List UInt8)} {y : LS} (hg : Good y.ts) (hT : AllTok y.ts) (he : (arcsG ns y).2 = 0) (hk : (hd (arcsG ns y).1.ts).kind ≠ 1) : (hd y.ts).kind = 3 ∧ Eat y.ts (arcsG ns y).1.ts := by
  unfold arcsG at he hk ⊢
  by_cases h1 : (hd y.ts).text = [58]
  · rw [if_pos h1] at he hk ⊢
    have h3 := kind3 hT hg h1 rfl (by decide) (by decide)
    have hg2 := hg.tailT (by rw [h1]; simp)
    have hr := listTop_rest (fun x h => lookG_rest (ns := ns) h) [45, 62] { y with ts := y.ts.tail } hg2
    have hT2 := hT.tail.suf hr.2.2
    have hL := listTop_eat (look_eat ns) (fun x h => lookG_rest (ns := ns) h) [45, 62] { y with ts := y.ts.tail } hg2 hT.tail
    by_cases h4 : (listTop (lookG ns) [45, 62] { y with ts := y.ts.tail }).2 = 0
    · rw [if_neg (not_not_intro h4)] at he hk ⊢
      by_cases h5 : (hd (listTop (lookG ns) [45, 62] { y with ts := y.ts.tail }).1.ts).text = [45, 62]
      · rw [if_pos h5] at he hk ⊢
        have h6 := kind3 hT2 hr.1 h5 rfl (by decide) (by decide)
        have hr2 := hr.1.tailT (by rw [h5]; simp)
        refine ⟨h3, (eat_kind hT hg (by rw [h3]; decide)).trans ((hL h4 (by rw [h6]; decide)).trans ((eat_kind hT2 hr.1 (by rw [h6]; decide)).trans ?_))⟩
        exact listTop_eat (out_eat ns) (fun x h => outG_rest (ns := ns) h) [59] { (listTop (lookG ns) [45, 62] { y with ts := y.ts.tail }).1 with ts := (listTop (lookG ns) [45, 62] { y with ts := y.ts.tail }).1.ts.tail } hr2 hT2.tail he hk
      · rw [if_neg h5] at he; cases he
    · rw [if_pos h4] at he; exact absurd he h4
  · rw [if_neg h1] at he; cases he

theorem transG_eat {ns : List (List UInt8)} {n : Nt} {a : List Tok} (hg : Good a) (hT : AllTok a) (he : (transG ns n a).2.1 = 0) (hk : (hd (transG ns n a).2.2).kind ≠ 1) : Eat a (transG ns n a).2.2 := by
  unfold transG at he hk ⊢
  by_cases h1 : n.trans.length = 32
  · rw [if_pos h1] at he; cases he
  · rw [if_neg h1] at he hk ⊢
    by_cases h2 : (headG n a).2.1 = 0
    · rw [if_neg (not_not_intro h2)] at he hk ⊢
      by_cases h3 : (arcsG ns ⟨(headG n a).2.2, [], [], []⟩).2 = 0
      · rw [if_neg (not_not_intro h3)] at hk ⊢
        have hr := headG_rest (n := n) hg
        obtain ⟨k1, k2⟩ := arcsG_eat (ns := ns) (y := ⟨(headG n a).2.2, [], [], []⟩) hr.1 (hT.suf hr.2.2) h3 hk
        refine Eat.trans ?_ k2
        simp only at k1
        unfold headG at h2 k1 ⊢
        by_cases g1 : (nameG n a).2.1 = 0
        · rw [if_neg (not_not_intro g1)] at h2 k1 ⊢
          obtain ⟨m1, m2, m3⟩ := nameG_new g1
          rw [m3] at h2 k1 ⊢
          simp only at h2 k1 ⊢
          have hg2 := hg.tailK (by rw [m1]; decide)
          by_cases g2 : (numG [64] 0 a.tail).2.1 = 0
          · rw [if_neg (not_not_intro g2)] at h2 k1 ⊢
            obtain ⟨e1, e2⟩ := numG_eat hT.tail hg2 (s := [64]) (least := 0) rfl (by decide) (by decide) g2
            have hr2 := numG_rest (s := [64]) (by simp) (least := 0) hg2
            by_cases g3 : (numG [33] 0 (numG [64] 0 a.tail).2.2).2.1 = 0
            · rw [if_neg (not_not_intro g3)] at k1 ⊢
              obtain ⟨e3, e4⟩ := numG_eat (hT.tail.suf hr2.2.2) hr2.1 (s := [33]) (least := 0) rfl (by decide) (by decide) g3
              refine (Eat.trans (eat_one hg (fun q => ?_)) e1).trans e3
              rcases e2 with e2 | e2
              · rw [e2] at e4 k1
                rcases e4 with e4 | e4
                · rw [e4] at k1; rw [k1] at q; exact absurd q.2 (by decide)
                · rw [e4] at q; exact absurd q.2 (by decide)
              · rw [e2] at q; exact absurd q.2 (by decide)
            · rw [if_pos g3] at h2; exact absurd h2 g3
          · rw [if_pos g2] at h2; exact absurd h2 g2
        · rw [if_pos g1] at h2; exact absurd h2 g1
      · rw [if_pos h3] at he; exact absurd he h3
    · rw [if_pos h2] at he; exact absurd he h2

theorem bs_inj {a b : List UInt8} (h : bs a = bs b) : a = b := by
  have := congrArg (fun x : ByteArray => x.data.toList) h
  simpa [bs_data] using this

/-- the places that were read are those that are counted -/
theorem items_nums {ns : List (List UInt8)} (f : Nat) : ∀ (n : Nt) (ts : List Tok) (acc : List (List UInt8)), Good ts → AllTok ts → NetOk ns.length n → n.places.map (·.name) = acc.map bs → (itemsG ns f n ts).2.1 = 0 →
    NetOk ns.length (itemsG ns f n ts).1 ∧ (itemsG ns f n ts).1.places.map (·.name) = (numsG acc ts).map bs := by
  induction f with
  | zero => intro n ts acc hg hT hn ha he; cases he
  | succ f ih =>
    intro n ts acc hg hT hn ha he
    unfold itemsG at he ⊢
    by_cases hk : (hd ts).kind = 0
    · rw [if_pos hk]
      refine ⟨hn, ?_⟩
      match ts, hg, hk with
      | [e], hg, hk =>
        have : ¬ e.text = wPlace := by rw [hg.2]; decide
        rw [numsG, if_neg (fun q => this q.1)]
        exact ha
      | t :: u :: r, hg, hk => exact absurd hk hg.2.1
    · rw [if_neg hk] at he ⊢
      by_cases h1 : (itemG ns n ts).2.1 = 0
      · rw [if_neg (not_not_intro h1)] at he ⊢
        by_cases h2 : (hd (itemG ns n ts).2.2).text = [59]
        · rw [if_pos h2] at he ⊢
          have hr := itemG_rest (ns := ns) (n := n) hg
          have hT2 := hT.suf hr.2.2
          have k3 := kind3 hT2 hr.1 h2 rfl (by decide) (by decide)
          have hr2 := hr.1.tailT (by rw [h2]; simp)
          have hsemi := eat_kind hT2 hr.1 (by rw [k3]; decide)
          have hgt := hg.tailK hk
          by_cases hp : (hd ts).text = wPlace
          · have e1 : itemG ns n ts = placeG n ts.tail := by unfold itemG; rw [if_pos hp]
            rw [e1] at h1 h2 hr hT2 k3 hr2 hsemi he ⊢
            obtain ⟨o1, o2, o3, o4, o5, o6⟩ := placeG_ok hn h1
            have hnot : (hd ts.tail).text ∉ acc := fun hm => by
              have h7 : bs (hd ts.tail).text ∈ n.names := by
                unfold Nt.names
                rw [ha]
                exact List.mem_append_left _ (List.mem_map_of_mem hm)
              have h8 := o6 _ h7
              rw [sEq_refl'] at h8
              cases h8
            have hstep : numsG acc ts = numsG (acc ++ [(hd ts.tail).text]) ts.tail := by
              obtain ⟨r, e, e2⟩ := hg.cons
              rw [← e2] at o3 hnot ⊢
              rw [e, numsG, if_pos ⟨hp, o3, hnot⟩]
            obtain ⟨n1, n2⟩ := numG_eat hT.tail.tail (hgt.tailK (by rw [o3]; decide)) (s := [61]) (least := 0) rfl (by decide) (by decide) o5
            have hword : Eat ts.tail ts.tail.tail := eat_one hgt (fun q => by
              rcases n2 with n2 | n2
              · rw [o4, n2] at k3; rw [k3] at q; exact absurd q.2 (by decide)
              · rw [n2] at q; exact absurd q.2 (by decide))
            have hall : Eat ts.tail (placeG n ts.tail).2.2.tail := (hword.trans (by rw [o4]; exact n1)).trans hsemi
            rw [hstep, hall]
            exact ih _ _ _ hr2 hT2.tail o1 (by rw [o2, ha]; simp) he
          · by_cases ht : (hd ts).text = wTrans
            · have e1 : itemG ns n ts = transG ns n ts.tail := by unfold itemG; rw [if_neg hp, if_pos ht]
              rw [e1] at h1 h2 hr hT2 k3 hr2 hsemi he ⊢
              obtain ⟨o1, o2⟩ := transG_ok hn h1
              have hall : Eat ts (transG ns n ts.tail).2.2.tail := ((eat_text hg hp).trans (transG_eat hgt hT.tail h1 (by rw [k3]; decide))).trans hsemi
              rw [hall]
              exact ih _ _ _ hr2 hT2.tail o1 (by rw [o2, ha]) he
            · have e1 : itemG ns n ts = (n, 6, ts) := by unfold itemG; rw [if_neg hp, if_neg ht]
              rw [e1] at h1
              cases h1
        · rw [if_neg h2] at he; cases he
      · rw [if_pos h1] at he; exact absurd he h1

/-- A NET THAT IS READ MAY BE -/
theorem parse_check {T : List Tok} {n : Nt} (hg : Good T) (hT : AllTok T) (h : parseT T = .ok n) : checkN n = 0 := by
  unfold parseT at h
  by_cases he : (itemsG (numsG [] T) T.length ⟨[], []⟩ T).2.1 = 0
  · rw [if_neg (not_not_intro he)] at h
    injection h with h
    subst h
    obtain ⟨q1, q2⟩ := items_nums (ns := numsG [] T) T.length ⟨[], []⟩ T [] hg hT ⟨by simp, by simp, (fun p hp => by simp at hp), (fun s hs => by simp [Nt.names] at hs), (by simp [Nt.names]), (fun t ht => by simp at ht)⟩ rfl he
    have hl := congrArg List.length q2
    simp only [List.length_map] at hl
    rw [← hl] at q1
    exact checkN_ok q1
  · rw [if_pos he] at h; cases h
end Go.Proofs.Ytfiielibnnodkaa

/-! ## PSame -/
namespace Go.Proofs.Ytfiielibnnodkaa
open Go.RowKit
set_option linter.unusedVariables false

theorem parse_netOk {T : List Tok} {n : Nt} (hg : Good T) (hT : AllTok T) (h : parseT T = .ok n) : NetOk n.places.length n := by
  unfold parseT at h
  by_cases he : (itemsG (numsG [] T) T.length ⟨[], []⟩ T).2.1 = 0
  · rw [if_neg (not_not_intro he)] at h
    injection h with h
    subst h
    obtain ⟨q1, q2⟩ := items_nums (ns := numsG [] T) T.length ⟨[], []⟩ T [] hg hT ⟨by simp, by simp, (fun p hp => by simp at hp), (fun s hs => by simp [Nt.names] at hs), (by simp [Nt.names]), (fun t ht => by simp at ht)⟩ rfl he
    have hl := congrArg List.length q2
    simp only [List.length_map] at hl
    rw [← hl] at q1
    exact q1
  · rw [if_pos he] at h; cases h

theorem LexOk.all {p : Nat} {l : List UInt8} {T : List Tok} (h : LexOk p l T) : AllTok T := fun t ht => (h.each t ht).2.2

/-- what the document's own parser says -/
def RPOut (w' : World) (l : List UInt8) (v : Value) : Prop :=
  (∃ (er : Int) (p : Nat), parseL l = .error (er, p) ∧ er ≠ 0 ∧ v = .tuple #[.agg #[.slice none 0 0, .slice none 0 0], .int .i64 er, .int .i64 (p : Int)]) ∨
  (∃ n vp vt, parseL l = .ok n ∧ NetAt w' vp vt n ∧ v = .tuple #[.agg #[vp, vt], .int .i64 0, .int .i64 0])
def RParseSays : Prop := ∀ (w : World) (A : Option Addr) (n c : Nat) (l : List UInt8), BytesAt w A n l → n ≤ c → n ≤ 800000 →
  Calls Try.prog 27 #[.slice A n c] w fun e w' => ∃ v, e = .returned v ∧ RPOut w' l v ∧ Below w.heap.size w w'

section
variable {w : World} {A : Option Addr} {n c : Nat} {l : List UInt8}

set_option maxRecDepth 100000 in
set_option maxHeartbeats 2000000 in
theorem same6_any (hR : RParseSays) (h : BytesAt w A n l) (hc : n ≤ c) (hn : n ≤ 800000) :
    Calls Try.prog 15 #[.slice A n c] w fun e w' => e = .returned (.bool true) ∧ Below w.heap.size w w' := by
  have hll := h.len
  have H := Lib.hid h
  have HR := Lib.hid hR
  have Hn := Lib.hid hn
  have Hc := Lib.hid hc
  cases hp : parseL l with
  | ok N =>
    have hn1 := net_ok h c hc hn hp
    have HP := Lib.hid hp
    have hok : NetOk N.places.length N := by
      unfold parseL at hp
      cases hx : lexL 0 l with
      | error e => rw [hx] at hp; cases hp
      | ok T =>
        rw [hx] at hp
        have hL := lexL_all l.length l 0 T (Nat.le_refl _) (by omega) hx
        exact parse_netOk hL.good hL.all hp
    have Hok := Lib.hid hok
    clear h hp hR hok
    go_enter Try.func15, Try.ntmps15
    go_wp2_with fail
    refine hn1.mono ?_
    rintro e v1 ⟨a1, m1, c1, a2, m2, c2, rfl, hl1, hl2, hA, hb1⟩
    have bw1 : Below v1.heap.size v1 ((v1.alloc (.cells #[.slice a1 m1 c1, .slice a2 m2 c2] 30)).alloc (.cells #[.int .i64 0, .int .i64 0, .int .i64 0, .int .i64 0] 49)) := ((Below.refl _ v1).alloc (Nat.le_refl _) _).alloc (by simp) _
    have hR1 := Res.start v1 (.slice a1 m1 c1) (.slice a2 m2 c2)
    have HS1 := Lib.hid (hb1.trans (bw1.mono hb1.size))
    have HA1 := Lib.hid (hA.below bw1)
    have Hl1 := Lib.hid hl1
    have Hl2 := Lib.hid hl2
    have hrp := HR.out _ A n c l (H.out.below HS1.out) Hc.out Hn.out
    have HR1 := Lib.hid hR1
    clear hb1 hA hl1 hl2 bw1 hR1 hn1
    go_wp2_with fail
    refine hrp.mono ?_
    rintro e v2 ⟨v, rfl, hout, hb2⟩
    rcases hout with ⟨er, p, q1, _, _⟩ | ⟨N', vp, vt, q1, q2, rfl⟩
    · rw [HP.out] at q1; cases q1
    · rw [HP.out] at q1
      injection q1 with q1
      subst q1
      obtain ⟨g1, l', g2, g3⟩ := q2
      obtain ⟨x1, y1, e1⟩ := RowAt.len g1
      obtain ⟨x2, y2, e2⟩ := RowAt.len g3.1
      have hl' : l'.length = N.trans.length := by rw [← g2]; simp
      rw [hl'] at e2
      obtain ⟨p1, hp1⟩ : ∃ k, k = N.places.length := ⟨_, rfl⟩
      obtain ⟨p2, hp2⟩ : ∃ k, k = N.trans.length := ⟨_, rfl⟩
      rw [← hp1] at e1
      rw [← hp2] at e2
      subst e1 e2
      have Hp1 := Lib.hid hp1
      have Hp2 := Lib.hid hp2
      have bw2 : Below v2.heap.size v2 (v2.alloc (.cells #[.slice x1 p1 y1, .slice x2 p2 y2] 30)) := (Below.refl _ v2).alloc (Nat.le_refl _) _
      have hB2 : NetAt v2 (.slice x1 p1 y1) (.slice x2 p2 y2) N := ⟨g1, l', g2, g3⟩
      have HB2 := Lib.hid (hB2.below bw2)
      have hup := hb2.trans (bw2.mono hb2.size)
      have HA2 := Lib.hid (HA1.out.below hup)
      have HR2 := Lib.hid (HR1.out.up hup)
      have HS2 := Lib.hid (HS1.out.trans (hup.mono HS1.out.size))
      have wn0 : (v2.alloc (.cells #[.slice x1 p1 y1, .slice x2 p2 y2] 30)).cell? ⟨v2.heap.size, 0, none⟩ = some (.slice x1 p1 y1) := by go_simp
      have wn1 : (v2.alloc (.cells #[.slice x1 p1 y1, .slice x2 p2 y2] 30)).cell? ⟨v2.heap.size, 1, none⟩ = some (.slice x2 p2 y2) := by go_simp
      have wl : v2.heap.size < (v2.alloc (.cells #[.slice x1 p1 y1, .slice x2 p2 y2] 30)).heap.size := by simp
      clear hb2 g1 g2 g3 hl' hp1 hp2 bw2 hB2 hup hrp HA1 HR1
      go_upto_region 3 with (fail)
      revert HB2 HA2 HR2 HS2 wn0 wn1 wl
      generalize v2.alloc (.cells #[.slice x1 p1 y1, .slice x2 p2 y2] 30) = W
      intro HB2 HA2 HR2 HS2 wn0 wn1 wl
      obtain ⟨r0, r1, r2, r3, r4, r5, r6⟩ := HR2.out
      have r7 : v1.heap.size < W.heap.size := by omega
      have hsm := same_any Hl1.out Hl2.out Hp1.out Hp2.out HA2.out HB2.out
      rw [sameN_refl] at hsm
      go_wp2_with fail
      refine hsm.mono ?_
      rintro e w5 ⟨rfl, hb5⟩
      have HS5 := Lib.hid (HS2.out.trans (hb5.mono HS2.out.size))
      have hck := check_at Hl1.out Hl2.out (HA2.out.below hb5) (fun s hs => by have h1 := Hok.out.nm s hs; unfold nameB at h1; simp only [Bool.and_eq_true, decide_eq_true_eq] at h1; have h2 := h1.2; rw [Array.length_toList] at h2; show s.data.size ≤ 1000; omega) (checkN_ok Hok.out)
      obtain ⟨s0, s1, s2, s3, s4, s5, s6⟩ := HR2.out.up hb5
      have s7 : v1.heap.size < w5.heap.size := by omega
      clear hb5 hsm r0 r1 r2 r3 r4 r5 wn0 wn1
      go_wp2_with fail
      refine hck.mono ?_
      rintro e w6 ⟨rfl, hb6⟩
      have HS6 := Lib.hid (HS5.out.trans (hb6.mono HS5.out.size))
      clear hb6 hck
      go_wp2
      go_ret
      exact ⟨rfl, HS6.out⟩
  | error x =>
    obtain ⟨er, p⟩ := x
    have hn1 := net_bad h c hc hn hp
    have HP := Lib.hid hp
    obtain ⟨q, hq⟩ : ∃ q, q = placeL (l.take p) := ⟨_, rfl⟩
    rw [← hq] at hn1
    have Hq := Lib.hid hq
    obtain ⟨k1, k2⟩ := q
    unfold faultV at hn1
    simp only at hn1
    clear h hp hR hq
    go_enter Try.func15, Try.ntmps15
    go_wp2_with fail
    refine hn1.mono ?_
    rintro e v1 ⟨rfl, hpl, hb1⟩
    have bw1 : Below v1.heap.size v1 ((v1.alloc (.cells #[.slice none 0 0, .slice none 0 0] 30)).alloc (.cells #[.int .i64 er, .int .i64 (p : Int), .int .i64 (k1 : Int), .int .i64 (k2 : Int)] 49)) := ((Below.refl _ v1).alloc (Nat.le_refl _) _).alloc (by simp) _
    have HS1 := Lib.hid (hb1.trans (bw1.mono hb1.size))
    have hrp := HR.out _ A n c l (H.out.below HS1.out) Hc.out Hn.out
    have f0 : ((v1.alloc (.cells #[.slice none 0 0, .slice none 0 0] 30)).alloc (.cells #[.int .i64 er, .int .i64 (p : Int), .int .i64 (k1 : Int), .int .i64 (k2 : Int)] 49)).cell? ⟨v1.heap.size + 1, 0, none⟩ = some (.int .i64 er) := by go_simp
    have f1 : ((v1.alloc (.cells #[.slice none 0 0, .slice none 0 0] 30)).alloc (.cells #[.int .i64 er, .int .i64 (p : Int), .int .i64 (k1 : Int), .int .i64 (k2 : Int)] 49)).cell? ⟨v1.heap.size + 1, 1, none⟩ = some (.int .i64 (p : Int)) := by go_simp
    have f2 : ((v1.alloc (.cells #[.slice none 0 0, .slice none 0 0] 30)).alloc (.cells #[.int .i64 er, .int .i64 (p : Int), .int .i64 (k1 : Int), .int .i64 (k2 : Int)] 49)).cell? ⟨v1.heap.size + 1, 2, none⟩ = some (.int .i64 (k1 : Int)) := by go_simp
    have f3 : ((v1.alloc (.cells #[.slice none 0 0, .slice none 0 0] 30)).alloc (.cells #[.int .i64 er, .int .i64 (p : Int), .int .i64 (k1 : Int), .int .i64 (k2 : Int)] 49)).cell? ⟨v1.heap.size + 1, 3, none⟩ = some (.int .i64 (k2 : Int)) := by go_simp
    have n0 : ((v1.alloc (.cells #[.slice none 0 0, .slice none 0 0] 30)).alloc (.cells #[.int .i64 er, .int .i64 (p : Int), .int .i64 (k1 : Int), .int .i64 (k2 : Int)] 49)).cell? ⟨v1.heap.size, 0, none⟩ = some (.slice none 0 0) := by go_simp
    have n1 : ((v1.alloc (.cells #[.slice none 0 0, .slice none 0 0] 30)).alloc (.cells #[.int .i64 er, .int .i64 (p : Int), .int .i64 (k1 : Int), .int .i64 (k2 : Int)] 49)).cell? ⟨v1.heap.size, 1, none⟩ = some (.slice none 0 0) := by go_simp
    have hsz : v1.heap.size + 1 < ((v1.alloc (.cells #[.slice none 0 0, .slice none 0 0] 30)).alloc (.cells #[.int .i64 er, .int .i64 (p : Int), .int .i64 (k1 : Int), .int .i64 (k2 : Int)] 49)).heap.size := by simp
    have Hpl := Lib.hid hpl
    clear hb1 bw1 hn1 hpl
    go_wp2_with fail
    refine hrp.mono ?_
    rintro e v2 ⟨v, rfl, hout, hb2⟩
    rcases hout with ⟨er', p', q1, hne, rfl⟩ | ⟨N', vp, vt, q1, q2, rfl⟩
    · rw [HP.out] at q1
      injection q1 with q1
      injection q1 with q1 q2
      subst q1 q2
      have bw2 : Below v2.heap.size v2 (v2.alloc (.cells #[.slice none 0 0, .slice none 0 0] 30)) := (Below.refl _ v2).alloc (Nat.le_refl _) _
      have hup := hb2.trans (bw2.mono hb2.size)
      have HS2 := Lib.hid (HS1.out.trans (hup.mono HS1.out.size))
      have g0 := (below_cells hup _ _ hsz).trans f0
      have g1 := (below_cells hup _ _ hsz).trans f1
      have g2 := (below_cells hup _ _ hsz).trans f2
      have g3 := (below_cells hup _ _ hsz).trans f3
      have h0 := (below_cells hup _ _ (Nat.lt_of_succ_lt hsz)).trans n0
      have h1 := (below_cells hup _ _ (Nat.lt_of_succ_lt hsz)).trans n1
      have hz2 : v1.heap.size + 1 < (v2.alloc (.cells #[.slice none 0 0, .slice none 0 0] 30)).heap.size := Nat.lt_of_lt_of_le hsz hup.size
      have herb : (er == 0) = false := by simpa using hne
      have hrpl := rplace_any (H.out.below HS2.out) c p (by rw [← hll]; exact Hpl.out) (by have := Hn.out; omega)
      rw [← Hq.out] at hrpl
      simp only at hrpl
      clear hb2 bw2 hup hrp f0 f1 f2 f3 n0 n1 hsz hne
      go_upto_region 3 with (fail)
      revert HS2 g0 g1 g2 g3 h0 h1 hz2 hrpl
      generalize v2.alloc (.cells #[.slice none 0 0, .slice none 0 0] 30) = W
      intro HS2 g0 g1 g2 g3 h0 h1 hz2 hrpl
      have hz3 : v1.heap.size < W.heap.size := by omega
      go_wp2_with fail
      refine hrpl.mono ?_
      rintro e w5 ⟨rfl, rfl⟩
      clear hrpl
      go_wp2
      go_ret
      exact ⟨rfl, HS2.out⟩
    · rw [HP.out] at q1; cases q1
end
end Go.Proofs.Ytfiielibnnodkaa
