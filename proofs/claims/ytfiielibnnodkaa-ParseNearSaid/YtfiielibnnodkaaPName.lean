/-
  The parser's names.
  Conditions: none beyond each theorem's own.
-/
import Derived.Test.YtfiielibnnodkaaPNum
import Derived.Test.YtfiielibnnodkaaNew
namespace Go.Proofs.Ytfiielibnnodkaa
open Go.RowKit
set_option linter.unusedVariables false

/-- the net so far -/
def ntOf' (ps : List Pl) (l : List (Tr × Value × Value × Value)) : Nt := ⟨ps, l.map (·.1)⟩

section
variable {w0 w w' : World} {R : Nat} {vm vp vt : Value} {ts : List Tok} {ps : List Pl} {l : List (Tr × Value × Value × Value)} {more : List Row}

theorem St.net (h : St w0 w R vm vp vt ts ps l more) : NetOwn w0.heap.size w vp vt (ntOf' ps l) := by
  obtain ⟨vk, h1, h2, h3⟩ := h
  exact ⟨l, rfl, h2.sub ((List.sublist_append_left _ _).trans (List.sublist_cons_self _ _))⟩
theorem St.forms (h : St w0 w R vm vp vt ts ps l more) : (∃ a c, vp = .slice a ps.length c) ∧ ∃ a c, vt = .slice a l.length c := by
  obtain ⟨vk, h1, h2, h3⟩ := h
  exact ⟨own_form (h2.own (plRow vp ps) (by simp [netRows])), own_form (h2.own (trRow vt l) (by simp [netRows]))⟩

set_option maxRecDepth 100000 in
set_option maxHeartbeats 2000000 in
theorem name_reader (h : St w0 w R vm vp vt ts ps l more) (hg : Good ts) :
    Calls Try.prog 86 #[.pointer (some ⟨R, 0, none⟩)] w fun e w' => e = .returned (.tuple #[.string (bs (nameG (ntOf' ps l) ts).1), .int .i64 (nameG (ntOf' ps l) ts).2.1]) ∧ St w0 w' R vm vp vt (nameG (ntOf' ps l) ts).2.2 ps l more := by
  have hnx := next_any h hg
  unfold tokV at hnx
  obtain ⟨⟨ap, cp, e1⟩, at_, ct, e2⟩ := h.forms
  unfold nameG
  by_cases hk : (hd ts).kind = 1
  · have hk2 : ((((hd ts).kind : Nat) : Int) == 1) = true := by rw [hk]; rfl
    have Hg2 := Lib.hid (hg.tailK (by rw [hk]; decide))
    rw [if_neg (by rw [hk]; simp)]
    clear hk
    have hsz : (bs (hd ts).text).size ≤ 9223372036854775807 := by rw [bs_size]; have := hg.small; omega
    obtain ⟨q1, hq1⟩ : ∃ q, q = nameB (hd ts).text := ⟨_, rfl⟩
    obtain ⟨q2, hq2⟩ : ∃ q, q = (ntOf' ps l).places.any (plHas (bs (hd ts).text)) := ⟨_, rfl⟩
    obtain ⟨q3, hq3⟩ : ∃ q, q = (ntOf' ps l).trans.any (trHas (bs (hd ts).text)) := ⟨_, rfl⟩
    have hnew : newB (ntOf' ps l) (hd ts).text = (q1 && !q2 && !q3) := by rw [hq1, hq2, hq3]; rfl
    have i2 : decide (0 ≤ idxOf (plHas (bs (hd ts).text)) (ntOf' ps l).places) = q2 := by rw [idxOf_ge, hq2]
    have i3 : decide (0 ≤ idxOf (trHas (bs (hd ts).text)) (ntOf' ps l).trans) = q3 := by rw [idxOf_ge, hq3]
    have Hq1 : Hid (nameB (bs (hd ts).text).data.toList = q1) := Lib.hid (by rw [bs_data, hq1])
    rw [hnew]
    clear hq1 hq2 hq3 hnew
    obtain ⟨np, hnp⟩ : ∃ n, n = (ntOf' ps l).places.length := ⟨_, rfl⟩
    obtain ⟨nt, hnt⟩ : ∃ n, n = (ntOf' ps l).trans.length := ⟨_, rfl⟩
    have e1 : vp = .slice ap np cp := by rw [e1, hnp]; rfl
    have e2 : vt = .slice at_ nt ct := by rw [e2, hnt]; simp [ntOf']
    subst e1 e2
    have Hnp := Lib.hid hnp
    have Hnt := Lib.hid hnt
    clear hnp hnt
    have H := Lib.hid h
    have Hg := Lib.hid hg
    generalize hI2 : idxOf (plHas (bs (hd ts).text)) (ntOf' ps l).places = I2 at i2
    generalize hI3 : idxOf (trHas (bs (hd ts).text)) (ntOf' ps l).trans = I3 at i3
    have HI2 := Lib.hid hI2
    have HI3 := Lib.hid hI3
    clear h hg hI2 hI3
    go_enter Try.func86, Try.ntmps86
    go_wp2_with fail
    refine hnx.mono ?_
    rintro e w1 ⟨rfl, hb⟩
    have hS := (H.out.go hb).box #[.int .u8 ((hd ts).kind : Int), .string (bs (hd ts).text), .int .i64 ((hd ts).num : Int), .int .i64 ((hd ts).at_ : Int)] 81
    clear hb hnx
    generalize hW : w1.alloc (.cells #[.int .u8 ((hd ts).kind : Int), .string (bs (hd ts).text), .int .i64 ((hd ts).num : Int), .int .i64 ((hd ts).at_ : Int)] 81) = W at hS
    obtain ⟨a, n, c, hC, hn, hnc, hcm, b, off, rfl, hb, hb0, e0, e1, e2, e3⟩ := hS.cells Hg.out
    obtain ⟨c0, c1, c2, c3, fz, lt⟩ := hC
    have hB := hS.mem (r := boxRow w1.heap.size 81 [.int .u8 ((hd ts).kind : Int), .string (bs (hd ts).text), .int .i64 ((hd ts).num : Int), .int .i64 ((hd ts).at_ : Int)]) (by simp)
    have b1 := boxRow.cell hB (j := 1) rfl
    have b0 := boxRow.cell hB (j := 0) rfl
    have ltb := (boxRow.lt hB).2
    have HS := Lib.hid hS
    have n1 := fun p : NewBy W => NewBy.cell (o := 1) ltb b1 p
    have n2 := fun p : NewBy W => NewBy.cell (o := 2) lt c2 p
    have n3 := fun p : NewBy W => NewBy.cell (o := 3) lt c3 p
    have nl := fun p : NewBy W => Nat.lt_of_lt_of_le ltb p.below.size
    have nr := fun p : NewBy W => Nat.lt_of_lt_of_le lt p.below.size
    have K1 := Lib.hid (fun p : NewBy W => lexName_any _ p.to hsz q1 Hq1.out)
    have K2 := Lib.hid (fun p : NewBy W => netplace_any (s := bs (hd ts).text) Hnp.out (hS.net.at_.below p.below))
    have K3 := Lib.hid (fun p : NewBy W => nettrans_any (s := bs (hd ts).text) Hnt.out (hS.net.at_.below p.below))
    rw [HI2.out] at K2
    rw [HI3.out] at K3
    clear hS hB e0 e1 e2 e3 c0 c1 hn hnc hcm hb hb0 fz
    go_wp2
    clear hW b0 b1 c2 c3
    cases q1 with
    | false =>
      refine wp_region_new (by kernel_rfl) (by kernel_rfl) ?_
      repeat (go_big_quiet_step (first | (go_at_call 59; exact Calls.new_of (K1.out _)) | (go_at_call 97; exact Calls.new_of (K2.out _)) | (go_at_call 98; exact Calls.new_of (K3.out _))))
      refine wpQuiet_nil ?_
      intro wz hz
      obtain ⟨pz, hz⟩ := hz
      subst hz
      have HZ := Lib.hid (HS.out.go pz.below)
      clear n1 n2 n3 nl nr K1 K2 K3 i2 i3
      go_wp2
      go_ret2
      exact ⟨rfl, HZ.out.drop⟩
    | true =>
    cases q2 with
    | true =>
      refine wp_region_new (by kernel_rfl) (by kernel_rfl) ?_
      repeat (go_big_quiet_step (first | (go_at_call 59; exact Calls.new_of (K1.out _)) | (go_at_call 97; exact Calls.new_of (K2.out _)) | (go_at_call 98; exact Calls.new_of (K3.out _))))
      refine wpQuiet_nil ?_
      intro wz hz
      obtain ⟨pz, hz⟩ := hz
      subst hz
      have HZ := Lib.hid (HS.out.go pz.below)
      clear n1 n2 n3 nl nr K1 K2 K3 i2 i3
      go_wp2
      go_ret2
      exact ⟨rfl, HZ.out.drop⟩
    | false =>
    cases q3 with
    | true =>
      refine wp_region_new (by kernel_rfl) (by kernel_rfl) ?_
      repeat (go_big_quiet_step (first | (go_at_call 59; exact Calls.new_of (K1.out _)) | (go_at_call 97; exact Calls.new_of (K2.out _)) | (go_at_call 98; exact Calls.new_of (K3.out _))))
      refine wpQuiet_nil ?_
      intro wz hz
      obtain ⟨pz, hz⟩ := hz
      subst hz
      have HZ := Lib.hid (HS.out.go pz.below)
      clear n1 n2 n3 nl nr K1 K2 K3 i2 i3
      go_wp2
      go_ret2
      exact ⟨rfl, HZ.out.drop⟩
    | false =>
      refine wp_region_new (by kernel_rfl) (by kernel_rfl) ?_
      repeat (go_big_quiet_step (first | (go_at_call 59; exact Calls.new_of (K1.out _)) | (go_at_call 97; exact Calls.new_of (K2.out _)) | (go_at_call 98; exact Calls.new_of (K3.out _))))
      refine wpQuiet_nil ?_
      intro wz hz
      obtain ⟨pz, hz⟩ := hz
      subst hz
      have HZ := Lib.hid (HS.out.go pz.below)
      clear n1 n2 n3 nl nr K1 K2 K3 i2 i3
      have hB := HZ.out.mem (r := boxRow w1.heap.size 81 [.int .u8 ((hd ts).kind : Int), .string (bs (hd ts).text), .int .i64 ((hd ts).num : Int), .int .i64 ((hd ts).at_ : Int)]) (by simp)
      have hsk := skip_reader HZ.out Hg.out Hg2.out
      clear hB
      go_wp2_with fail
      refine hsk.mono ?_
      rintro e w3 ⟨rfl, hS3⟩
      have hB := hS3.mem (r := boxRow w1.heap.size 81 [.int .u8 ((hd ts).kind : Int), .string (bs (hd ts).text), .int .i64 ((hd ts).num : Int), .int .i64 ((hd ts).at_ : Int)]) (by simp)
      have c2 := boxRow.cell hB (j := 1) rfl
      have lt := (boxRow.lt hB).2
      have HS3 := Lib.hid hS3.drop
      clear hB hS3 hsk
      go_wp2
      go_ret2
      exact ⟨rfl, HS3.out⟩
  · have hk2 : ((((hd ts).kind : Nat) : Int) == 1) = false := by simp; omega
    rw [if_pos hk]
    have H := Lib.hid h
    clear h
    go_enter Try.func86, Try.ntmps86
    go_wp2_with fail
    refine hnx.mono ?_
    rintro e w1 ⟨rfl, hb⟩
    have HS := Lib.hid ((H.out.go hb).go ((Below.refl _ w1).alloc (Nat.le_refl _) (.cells #[.int .u8 ((hd ts).kind : Int), .string (bs (hd ts).text), .int .i64 ((hd ts).num : Int), .int .i64 ((hd ts).at_ : Int)] 81)))
    clear hb hnx
    go_wp2
    go_ret2
    exact ⟨rfl, HS.out⟩
end
end Go.Proofs.Ytfiielibnnodkaa
