/-
  A net that the parser comes to may be: plain facts.
  Conditions: none beyond each theorem's own.
-/
import Derived.Test.YtfiielibnnodkaaPGood
import Derived.Test.YtfiielibnnodkaaMakeB
namespace Go.Proofs.Ytfiielibnnodkaa
set_option linter.unusedVariables false

/-- arcs that may be, in a net of so many places -/
structure ArcsOk (P : Nat) (l : List (Int × Int)) : Prop where
  err : arcsErr (P : Int) [] l = 0
  len : l.length ≤ 8

theorem arcsErr_snoc (P : Int) (l : List (Int × Int)) (a : Int × Int) : ∀ pre, arcsErr P pre (l ++ [a]) = if arcsErr P pre l = 0 then (if numB 1 a.2 = false then 3 else if inP P a.1 = false then 2 else if hasP (pre ++ l) a.1 = true then 1 else 0) else arcsErr P pre l := by
  induction l with
  | nil => intro pre; simp [arcsErr]
  | cons b l ih =>
    intro pre
    rw [List.cons_append, arcsErr, arcsErr]
    split
    · simp
    · split
      · simp
      · split
        · simp
        · rw [ih (pre ++ [b])]; simp

theorem numG_val {s : List UInt8} {least : Int} {ts : List Tok} (h0 : 0 ≤ least) (h1 : least ≤ 1000000) (h : (numG s least ts).2.1 = 0) : numB least (numG s least ts).1 = true := by
  unfold numG at h ⊢
  split
  · split
    · rename_i a b; rw [if_pos a, if_pos b] at h; cases h
    · split
      · rename_i a b c; rw [if_pos a, if_neg b, if_pos c] at h; cases h
      · rename_i a b c
        simp only [numB, Bool.and_eq_true, decide_eq_true_eq]
        omega
  · simp only [numB, Bool.and_eq_true, decide_eq_true_eq]; omega

theorem arcG_ok {ns : List (List UInt8)} {l : List (Int × Int)} {ts : List Tok} (hl : ArcsOk ns.length l) (h : (arcG ns l ts).2.1 = 0) : ArcsOk ns.length (arcG ns l ts).1 := by
  unfold arcG at h ⊢
  split
  · rename_i a; rw [if_pos a] at h; cases h
  · rename_i a
    rw [if_neg a] at h
    split
    · rename_i b; rw [if_pos b] at h; cases h
    · rename_i b
      rw [if_neg b] at h
      split
      · rename_i c; rw [if_pos c] at h; cases h
      · rename_i c
        rw [if_neg c] at h
        split
        · rename_i d; rw [if_pos d] at h; exact absurd h d
        · rename_i d
          have he : (numG [42] 1 ts.tail).2.1 = 0 := Classical.byContradiction d
          have hm : (hd ts).text ∈ ns := Classical.byContradiction (fun e => b (.inl e))
          have hp : hasP l (ns.idxOf (hd ts).text : Nat) = false := by
            cases hh : hasP l (ns.idxOf (hd ts).text : Nat) with
            | false => rfl
            | true => exact absurd (.inr hh) b
          have hi : ns.idxOf (hd ts).text < ns.length := List.idxOf_lt_length_iff.2 hm
          refine ⟨?_, by have := hl.len; simp; omega⟩
          rw [arcsErr_snoc, if_pos hl.err, numG_val (by omega) (by omega) he]
          simp only [List.nil_append, hp]
          have : inP (ns.length : Int) ((ns.idxOf (hd ts).text : Nat) : Int) = true := by simp only [inP, Bool.and_eq_true, decide_eq_true_eq]; omega
          rw [this]; simp

structure LsOk (P : Nat) (x : LS) : Prop where
  inn : ArcsOk P x.inn
  nt : ArcsOk P x.nt
  out : ArcsOk P x.out

theorem lookG_ok {ns : List (List UInt8)} {x : LS} (hx : LsOk ns.length x) (h : (lookG ns x).2 = 0) : LsOk ns.length (lookG ns x).1 := by
  unfold lookG at h ⊢
  split
  · rename_i a; rw [if_pos a] at h; exact ⟨hx.inn, arcG_ok hx.nt h, hx.out⟩
  · rename_i a; rw [if_neg a] at h; exact ⟨arcG_ok hx.inn h, hx.nt, hx.out⟩
theorem outG_ok {ns : List (List UInt8)} {x : LS} (hx : LsOk ns.length x) (h : (outG ns x).2 = 0) : LsOk ns.length (outG ns x).1 := ⟨hx.inn, hx.nt, arcG_ok hx.out h⟩
theorem listG_ok {P : Nat} {step : LS → LS × Int} (hs : ∀ x, LsOk P x → (step x).2 = 0 → LsOk P (step x).1) (f : Nat) : ∀ x, LsOk P x → (listG step f x).2 = 0 → LsOk P (listG step f x).1 := by
  induction f with
  | zero => intro x hx h; cases h
  | succ f ih =>
    intro x hx h
    unfold listG at h ⊢
    split
    · rename_i a; rw [if_pos a] at h; exact absurd h a
    · rename_i a
      have ha : (step x).2 = 0 := Classical.byContradiction a
      have h1 := hs x hx ha
      rw [if_neg a] at h
      split
      · rename_i b; rw [if_pos b] at h; exact ih { (step x).1 with ts := (step x).1.ts.tail } ⟨h1.inn, h1.nt, h1.out⟩ h
      · exact h1
theorem listTop_ok {P : Nat} {step : LS → LS × Int} (hs : ∀ x, LsOk P x → (step x).2 = 0 → LsOk P (step x).1) (stop : List UInt8) (x : LS) (hx : LsOk P x) (h : (listTop step stop x).2 = 0) : LsOk P (listTop step stop x).1 := by
  unfold listTop at h ⊢
  split
  · exact hx
  · rename_i a; rw [if_neg a] at h; exact listG_ok hs _ x hx h
theorem arcsG_ok {ns : List (List UInt8)} {x : LS} (hx : LsOk ns.length x) (h : (arcsG ns x).2 = 0) : LsOk ns.length (arcsG ns x).1 := by
  unfold arcsG at h ⊢
  split
  · rename_i a
    rw [if_pos a] at h
    have hl := listTop_ok (P := ns.length) (fun x hx h => lookG_ok hx h) [45, 62] { x with ts := x.ts.tail } ⟨hx.inn, hx.nt, hx.out⟩
    split
    · rename_i b; rw [if_pos b] at h; exact absurd h b
    · rename_i b
      rw [if_neg b] at h
      have h1 := hl (Classical.byContradiction b)
      split
      · rename_i c
        rw [if_pos c] at h
        exact listTop_ok (P := ns.length) (fun x hx h => outG_ok hx h) [59] _ ⟨h1.inn, h1.nt, h1.out⟩ h
      · rename_i c; rw [if_neg c] at h; cases h
  · rename_i a; rw [if_neg a] at h; cases h

/-- a net that may be, but for the number of its places -/
structure NetOk (P : Nat) (n : Nt) : Prop where
  pl : n.places.length ≤ 32
  tr : n.trans.length ≤ 32
  tok : ∀ p ∈ n.places, numB 0 p.tok = true
  nm : ∀ s ∈ n.names, nameB s.data.toList = true
  dist : n.names.Pairwise (fun a b => sEq a b = false)
  trs : ∀ t ∈ n.trans, numB 0 t.delay = true ∧ numB 0 t.prio = true ∧ ArcsOk P t.inn ∧ ArcsOk P t.nt ∧ ArcsOk P t.out

theorem namesBad_no : ∀ (l pre : List ByteArray), (∀ s ∈ l, nameB s.data.toList = true) → (∀ a ∈ pre, ∀ b ∈ l, sEq a b = false) → l.Pairwise (fun a b => sEq a b = false) → namesBad pre l = false
  | [], _, _, _, _ => rfl
  | s :: r, pre, h1, h2, h3 => by
    rw [List.pairwise_cons] at h3
    have hp : hasS pre s = false := by
      unfold hasS
      rw [List.any_eq_false]
      intro a ha
      rw [h2 a ha s (by simp)]; simp
    rw [namesBad, h1 s (by simp), hp]
    simp only [Bool.true_eq_false, Bool.false_eq_true, if_false]
    refine namesBad_no r (pre ++ [s]) (fun x hx => h1 x (by simp [hx])) (fun a ha b hb => ?_) h3.2
    rw [List.mem_append, List.mem_singleton] at ha
    rcases ha with ha | rfl
    · exact h2 a ha b (by simp [hb])
    · exact h3.1 b hb

theorem checkN_ok {n : Nt} (h : NetOk n.places.length n) : checkN n = 0 := by
  have h1 : tooLongB n = false := by
    unfold tooLongB
    rw [decide_eq_false (by have := h.pl; omega), decide_eq_false (by have := h.tr; omega)]
    simp only [Bool.false_or]
    rw [List.any_eq_false]
    intro t ht
    obtain ⟨_, _, a, b, c⟩ := h.trs t ht
    have := a.len
    have := b.len
    have := c.len
    unfold longT Tr.most
    rw [decide_eq_false (by omega)]
    simp
  have h2 : namesBad [] n.names = false := namesBad_no _ _ h.nm (fun a ha => by cases ha) h.dist
  have h3 : placesBad n.places = false := by
    unfold placesBad
    rw [List.any_eq_false]
    intro p hp
    rw [h.tok p hp]; simp
  unfold checkN
  rw [h1, h2, h3]
  simp only [Bool.false_eq_true, if_false]
  refine transErr_zero (fun t ht => ?_)
  obtain ⟨a, b, c, d, e⟩ := h.trs t ht
  refine ⟨by rw [a, b]; rfl, ?_⟩
  simp [Tr.lists, listsErr, c.err, d.err, e.err]

theorem sEq_symm {a b : ByteArray} (h : sEq a b = false) : sEq b a = false := by rw [sEq_comm]; exact h

theorem newB_parts {n : Nt} {s : List UInt8} (h : newB n s = true) : nameB s = true ∧ ∀ x ∈ n.names, sEq x (bs s) = false := by
  unfold newB at h
  simp only [Bool.and_eq_true, Bool.not_eq_true'] at h
  obtain ⟨⟨h1, h2⟩, h3⟩ := h
  refine ⟨h1, fun x hx => ?_⟩
  unfold Nt.names at hx
  rw [List.mem_append, List.mem_map, List.mem_map] at hx
  rcases hx with ⟨p, hp, rfl⟩ | ⟨t, ht, rfl⟩
  · rw [List.any_eq_false] at h2; have := h2 p hp; exact (by simpa using this : sEq p.name ⟨s.toArray⟩ = false)
  · rw [List.any_eq_false] at h3; have := h3 t ht; exact (by simpa using this : sEq t.name ⟨s.toArray⟩ = false)

theorem nameG_new {n : Nt} {ts : List Tok} (h : (nameG n ts).2.1 = 0) : (hd ts).kind = 1 ∧ newB n (hd ts).text = true ∧ nameG n ts = ((hd ts).text, 0, ts.tail) := by
  unfold nameG at h ⊢
  split
  · rename_i a; rw [if_pos a] at h; cases h
  · rename_i a
    rw [if_neg a] at h
    split
    · rename_i b; rw [if_pos b] at h; cases h
    · rename_i b
      exact ⟨Classical.byContradiction a, by simpa using b, rfl⟩

theorem placeG_ok {P : Nat} {n : Nt} {ts : List Tok} (hn : NetOk P n) (h : (placeG n ts).2.1 = 0) :
    NetOk P (placeG n ts).1 ∧ (placeG n ts).1.places.map (·.name) = n.places.map (·.name) ++ [bs (hd ts).text] ∧ (hd ts).kind = 1 ∧ (placeG n ts).2.2 = (numG [61] 0 ts.tail).2.2 ∧ (numG [61] 0 ts.tail).2.1 = 0 ∧ (∀ x ∈ n.names, sEq x (bs (hd ts).text) = false) := by
  unfold placeG at h ⊢
  split
  · rename_i a; rw [if_pos a] at h; cases h
  · rename_i a
    rw [if_neg a] at h
    split
    · rename_i b; rw [if_pos b] at h; exact absurd h b
    · rename_i b
      rw [if_neg b] at h
      have hb : (nameG n ts).2.1 = 0 := Classical.byContradiction b
      obtain ⟨k1, k2, k3⟩ := nameG_new hb
      rw [k3] at h
      rw [k3]
      simp only at h ⊢
      split
      · rename_i c; rw [if_pos c] at h; exact absurd h c
      · rename_i c
        have hc : (numG [61] 0 ts.tail).2.1 = 0 := Classical.byContradiction c
        obtain ⟨m1, m2⟩ := newB_parts k2
        have hperm : (Nt.names { n with places := n.places ++ [⟨bs (hd ts).text, (numG [61] 0 ts.tail).1⟩] }).Perm (n.names ++ [bs (hd ts).text]) := by
          unfold Nt.names
          simp only [List.map_append, List.map_cons, List.map_nil, List.append_assoc]
          exact (List.perm_append_comm).append_left _
        refine ⟨⟨by have := hn.pl; simp; omega, hn.tr, fun p hp => ?_, fun x hx => ?_, ?_, hn.trs⟩, by simp [bs], k1, rfl, hc, m2⟩
        · rw [List.mem_append, List.mem_singleton] at hp
          rcases hp with hp | rfl
          · exact hn.tok p hp
          · exact numG_val (by omega) (by omega) hc
        · have hx2 := hperm.mem_iff.1 hx
          rw [List.mem_append, List.mem_singleton] at hx2
          rcases hx2 with hx2 | rfl
          · exact hn.nm x hx2
          · rw [bs_data]; exact m1
        · refine (hperm.pairwise_iff (fun {a b} h => sEq_symm h)).2 ?_
          rw [List.pairwise_append]
          exact ⟨hn.dist, List.pairwise_singleton _ _, fun x hx y hy => by rw [List.mem_singleton] at hy; subst hy; exact m2 x hx⟩

theorem transG_ok {ns : List (List UInt8)} {n : Nt} {ts : List Tok} (hn : NetOk ns.length n) (h : (transG ns n ts).2.1 = 0) :
    NetOk ns.length (transG ns n ts).1 ∧ (transG ns n ts).1.places = n.places := by
  unfold transG at h ⊢
  split
  · rename_i a; rw [if_pos a] at h; cases h
  · rename_i a
    rw [if_neg a] at h
    split
    · rename_i b; rw [if_pos b] at h; exact absurd h b
    · rename_i b
      rw [if_neg b] at h
      have hb : (headG n ts).2.1 = 0 := Classical.byContradiction b
      split
      · rename_i c; rw [if_pos c] at h; exact absurd h c
      · rename_i c
        have hc : (arcsG ns ⟨(headG n ts).2.2, [], [], []⟩).2 = 0 := Classical.byContradiction c
        have hnil : ArcsOk ns.length [] := ⟨rfl, by simp⟩
        have hA := arcsG_ok (x := ⟨(headG n ts).2.2, [], [], []⟩) ⟨hnil, hnil, hnil⟩ hc
        obtain ⟨k1, k2, k3, k4⟩ : (nameB (headG n ts).1.1 = true) ∧ (∀ x ∈ n.names, sEq x (bs (headG n ts).1.1) = false) ∧ numB 0 (headG n ts).1.2.1 = true ∧ numB 0 (headG n ts).1.2.2 = true := by
          unfold headG at hb ⊢
          split
          · rename_i d; rw [if_pos d] at hb; exact absurd hb d
          · rename_i d
            rw [if_neg d] at hb
            have hd' : (nameG n ts).2.1 = 0 := Classical.byContradiction d
            obtain ⟨j1, j2, j3⟩ := nameG_new hd'
            obtain ⟨m1, m2⟩ := newB_parts j2
            split
            · rename_i e; rw [if_pos e] at hb; exact absurd hb e
            · rename_i e
              rw [if_neg e] at hb
              split
              · rename_i f; rw [if_pos f] at hb; exact absurd hb f
              · rename_i f
                refine ⟨by rw [j3]; exact m1, by rw [j3]; exact m2, numG_val (by omega) (by omega) (Classical.byContradiction e), numG_val (by omega) (by omega) (Classical.byContradiction f)⟩
        refine ⟨⟨hn.pl, by have := hn.tr; simp; omega, hn.tok, fun x hx => ?_, ?_, fun t ht => ?_⟩, rfl⟩
        · unfold Nt.names at hx
          simp only [List.map_append, List.map_cons, List.map_nil, ← List.append_assoc] at hx
          rw [List.mem_append, List.mem_singleton] at hx
          rcases hx with hx | rfl
          · exact hn.nm x hx
          · exact k1
        · unfold Nt.names
          simp only [List.map_append, List.map_cons, List.map_nil, ← List.append_assoc]
          rw [List.pairwise_append]
          exact ⟨hn.dist, List.pairwise_singleton _ _, fun x hx y hy => by rw [List.mem_singleton] at hy; subst hy; exact k2 x hx⟩
        · rw [List.mem_append, List.mem_singleton] at ht
          rcases ht with ht | rfl
          · exact hn.trs t ht
          · exact ⟨k3, k4, hA.inn, hA.nt, hA.out⟩
end Go.Proofs.Ytfiielibnnodkaa
