/-
  The document's own parser: its main loop. The document's own parser, whole. What the document's own parser says is what the program's parser says.
  Conditions: none beyond each theorem's own.
-/
import Derived.Test.YtfiielibnnodkaaQCases
import Derived.Test.YtfiielibnnodkaaTokRow
import Derived.Test.YtfiielibnnodkaaRTokens
import Derived.Test.YtfiielibnnodkaaPGood
import Derived.Test.YtfiielibnnodkaaPSames2
import Derived.Deep.RegionLaw
import Derived.Deep.LoopGhost
import Derived.Deep.CutRange
/-! ## QMain -/
namespace Go.Proofs.Ytfiielibnnodkaa
open Go.RowKit
set_option linter.unusedVariables false

def D0 : QD := ⟨0, 0, 0, ⟨[], []⟩, []⟩
/-- what the tokens come to -/
def endQ (T : List Tok) : QD := itemsQ T (numsQ [] T) (fuelQ T D0) D0

theorem numsQ_step {ns : List ByteArray} {T : List Tok} {k : Nat} {t : Tok} (h : T[k]? = some t) :
    numsQ ns (T.drop k) = numsQ (if T.drop (k + 1) ≠ [] ∧ t.kind = 1 ∧ t.text = wPlace ∧ (hd (T.drop (k + 1))).kind = 1 ∧ hasSB ns (bs (hd (T.drop (k + 1))).text) = false then ns ++ [bs (hd (T.drop (k + 1))).text] else ns) (T.drop (k + 1)) := by
  rw [drop_at h]; rfl
theorem numsQ_last {ns : List ByteArray} {T : List Tok} {k : Nat} (h : T.length ≤ k + 1) : numsQ ns (T.drop k) = ns := by
  by_cases hk : k < T.length
  · obtain ⟨t, ht⟩ := at_lt hk
    rw [numsQ_step ht, List.drop_eq_nil_of_le h]
    rfl
  · rw [List.drop_eq_nil_of_le (by omega)]; rfl

/-- a token's cells, by its number -/
theorem tok_cells {w0 w : World} {a : Option Addr} {n c : Nat} {T : List Tok} (h : RowAt 4 w0 (.slice a n c) T.length (T.flatMap tokL)) (hb : Below w0.heap.size w0 w) {i : Nat} {t : Tok} (hi : T[i]? = some t) :
    ∃ b off, a = some ⟨b, off, none⟩ ∧ b < w.heap.size ∧ w.cell? ⟨b, off + i * 4, none⟩ = some (.int .u8 (t.kind : Int)) ∧ w.cell? ⟨b, off + i * 4 + 1, none⟩ = some (.string (bs t.text)) := by
  obtain ⟨b, off, e, hbb, hc⟩ := RowAt.elem tokL_len' h hi
  refine ⟨b, off, e, Nat.lt_of_lt_of_le hbb hb.size, ?_, ?_⟩
  · rw [below_cells hb b _ hbb]; exact hc 0 _ rfl
  · rw [below_cells hb b _ hbb]; exact hc 1 _ rfl

noncomputable def mainBody : Code := ((Try.f27.body.map loopsOf).getD []).getD 1 .skip

set_option maxRecDepth 1000000 in
set_option maxHeartbeats 8000000 in
theorem main_loop {w1 wI0 : World} {T : List Tok} {NS : List ByteArray} {nt ct : Nat} {at_ : Option Addr} {c0 c1 c2 c3 c4 c6 c7 c9 c10 c11 c12 c13 c14 c15 c16 c17 c18 c19 c20 c21 c22 c23 c24 c25 c26 c27 c28 c29 c30 c31 c32 c33 c34 c35 c36 c37 c38 c39 c40 c41 c42 c43 c44 c45 c46 c47 c48 c49 c50 c51 c52 c53 c54 c55 c56 c57 c58 c59 c60 c61 c62 c63 c64 c65 c66 c67 c68 c69 c70 c71 c72 c73 c74 c75 c76 c77 c78 c79 c80 c81 c82 c83 c84 c85 c86 c87 c88 c89 c90 c91 c92 c93 c94 c95 c96 c97 c98 c99 c100 c101 c102 c103 c104 c105 c106 c107 c108 c109 c110 c111 c112 c113 c114 c115 c116 c117 c118 c119 c120 c121 c122 c123 c124 c125 c126 c127 c128 c129 c130 c131 c132 c133 c134 c135 c136 c137 c138 c139 c140 c141 c142 c143 c144 c145 c146 c147 c148 c149 c150 c151 c152 c153 c154 c155 c156 c157 c158 c159 c160 c161 c162 c163 c164 c165 c166 c167 c168 c169 c170 c171 c172 c173 c174 c175 c176 c177 c178 c179 c180 c181 c182 c183 c184 c185 c186 c187 c188 c189 c190 c191 c192 c193 c194 c195 c196 c197 c198 c199 c200 c201 c202 c203 c204 c205 c206 c207 c208 c209 c210 c211 c212 c213 c214 c215 c216 c217 c218 c219 c220 c221 c222 c223 c224 c225 c226 c227 c228 c229 c230 c231 c232 c233 c234 c235 c236 c237 c238 c239 c240 c241 c242 c243 c244 c245 c246 c247 c248 c249 c250 c251 c252 c253 c254 c255 c256 : Value} {Qx : Exit → Act → World → Prop}
    (hnt : nt = T.length) (htl2 : nt ≤ 800001) (htok : RowAt 4 w1 (.slice at_ nt ct) T.length (T.flatMap tokL)) (hQ : Q w1 wI0 w1.heap.size T NS [] D0)
    (hexit : ∀ (D : QD) (u10 u11 u12 u13 u87 u88 u89 u90 u91 u92 u93 u94 u95 u96 u97 u98 u99 u100 u101 u102 u103 u104 u105 u106 u107 u108 u109 u110 u111 u112 u113 u114 u115 u116 u117 u118 u119 u120 u121 u122 u123 u124 u125 u126 u127 u128 u129 u130 u131 u132 u133 u134 u135 u136 u137 u138 u139 u140 u141 u142 u143 u144 u145 u146 u147 u148 u149 u150 u151 u152 u153 u154 u155 u156 u157 u158 u159 u160 u161 u162 u163 u164 u165 u166 u167 u168 u169 u170 u171 u172 u173 u174 u175 u176 u177 u178 u179 u180 u181 u182 u183 u184 u185 u186 u187 u188 u189 u190 u191 u192 u193 u194 u195 u196 u197 u198 u199 u200 u201 u202 u203 u204 u205 u206 u207 u208 u209 u210 u211 u212 u213 u214 u215 u216 u217 u218 u219 u220 u221 u222 u223 u224 u225 u226 u227 u228 u229 u230 u231 u232 u233 u234 u235 u236 u237 u238 : Value) (W' : World), Q w1 W' w1.heap.size T NS [] D → itemsQ T NS (fuelQ T D0) D0 = D → Qx (.exit 2) ⟨(c0 :: c1 :: c2 :: c3 :: c4 :: (.slice at_ nt ct) :: c6 :: c7 :: (.pointer (some ⟨w1.heap.size, 0, none⟩)) :: c9 :: u10 :: u11 :: u12 :: u13 :: c14 :: c15 :: c16 :: c17 :: c18 :: c19 :: c20 :: c21 :: c22 :: c23 :: c24 :: c25 :: c26 :: c27 :: c28 :: c29 :: c30 :: c31 :: c32 :: c33 :: c34 :: c35 :: c36 :: c37 :: c38 :: c39 :: c40 :: c41 :: c42 :: c43 :: c44 :: c45 :: c46 :: c47 :: c48 :: c49 :: c50 :: c51 :: c52 :: c53 :: c54 :: c55 :: c56 :: c57 :: c58 :: c59 :: c60 :: c61 :: c62 :: c63 :: c64 :: c65 :: c66 :: c67 :: c68 :: c69 :: c70 :: c71 :: c72 :: c73 :: c74 :: c75 :: c76 :: c77 :: c78 :: c79 :: c80 :: c81 :: c82 :: c83 :: c84 :: c85 :: c86 :: u87 :: u88 :: u89 :: u90 :: u91 :: u92 :: u93 :: u94 :: u95 :: u96 :: u97 :: u98 :: u99 :: u100 :: u101 :: u102 :: u103 :: u104 :: u105 :: u106 :: u107 :: u108 :: u109 :: u110 :: u111 :: u112 :: u113 :: u114 :: u115 :: u116 :: u117 :: u118 :: u119 :: u120 :: u121 :: u122 :: u123 :: u124 :: u125 :: u126 :: u127 :: u128 :: u129 :: u130 :: u131 :: u132 :: u133 :: u134 :: u135 :: u136 :: u137 :: u138 :: u139 :: u140 :: u141 :: u142 :: u143 :: u144 :: u145 :: u146 :: u147 :: u148 :: u149 :: u150 :: u151 :: u152 :: u153 :: u154 :: u155 :: u156 :: u157 :: u158 :: u159 :: u160 :: u161 :: u162 :: u163 :: u164 :: u165 :: u166 :: u167 :: u168 :: u169 :: u170 :: u171 :: u172 :: u173 :: u174 :: u175 :: u176 :: u177 :: u178 :: u179 :: u180 :: u181 :: u182 :: u183 :: u184 :: u185 :: u186 :: u187 :: u188 :: u189 :: u190 :: u191 :: u192 :: u193 :: u194 :: u195 :: u196 :: u197 :: u198 :: u199 :: u200 :: u201 :: u202 :: u203 :: u204 :: u205 :: u206 :: u207 :: u208 :: u209 :: u210 :: u211 :: u212 :: u213 :: u214 :: u215 :: u216 :: u217 :: u218 :: u219 :: u220 :: u221 :: u222 :: u223 :: u224 :: u225 :: u226 :: u227 :: u228 :: u229 :: u230 :: u231 :: u232 :: u233 :: u234 :: u235 :: u236 :: u237 :: u238 :: c239 :: c240 :: c241 :: c242 :: c243 :: c244 :: c245 :: c246 :: c247 :: c248 :: c249 :: c250 :: c251 :: c252 :: c253 :: c254 :: c255 :: c256 :: []).toArray, []⟩ W') :
    Code.wp Try.prog (Code.loop mainBody) Qx ⟨(c0 :: c1 :: c2 :: c3 :: c4 :: (.slice at_ nt ct) :: c6 :: c7 :: (.pointer (some ⟨w1.heap.size, 0, none⟩)) :: c9 :: c10 :: c11 :: c12 :: c13 :: c14 :: c15 :: c16 :: c17 :: c18 :: c19 :: c20 :: c21 :: c22 :: c23 :: c24 :: c25 :: c26 :: c27 :: c28 :: c29 :: c30 :: c31 :: c32 :: c33 :: c34 :: c35 :: c36 :: c37 :: c38 :: c39 :: c40 :: c41 :: c42 :: c43 :: c44 :: c45 :: c46 :: c47 :: c48 :: c49 :: c50 :: c51 :: c52 :: c53 :: c54 :: c55 :: c56 :: c57 :: c58 :: c59 :: c60 :: c61 :: c62 :: c63 :: c64 :: c65 :: c66 :: c67 :: c68 :: c69 :: c70 :: c71 :: c72 :: c73 :: c74 :: c75 :: c76 :: c77 :: c78 :: c79 :: c80 :: c81 :: c82 :: c83 :: c84 :: c85 :: c86 :: c87 :: c88 :: c89 :: c90 :: c91 :: c92 :: c93 :: c94 :: c95 :: c96 :: c97 :: c98 :: c99 :: c100 :: c101 :: c102 :: c103 :: c104 :: c105 :: c106 :: c107 :: c108 :: c109 :: c110 :: c111 :: c112 :: c113 :: c114 :: c115 :: c116 :: c117 :: c118 :: c119 :: c120 :: c121 :: c122 :: c123 :: c124 :: c125 :: c126 :: c127 :: c128 :: c129 :: c130 :: c131 :: c132 :: c133 :: c134 :: c135 :: c136 :: c137 :: c138 :: c139 :: c140 :: c141 :: c142 :: c143 :: c144 :: c145 :: c146 :: c147 :: c148 :: c149 :: c150 :: c151 :: c152 :: c153 :: c154 :: c155 :: c156 :: c157 :: c158 :: c159 :: c160 :: c161 :: c162 :: c163 :: c164 :: c165 :: c166 :: c167 :: c168 :: c169 :: c170 :: c171 :: c172 :: c173 :: c174 :: c175 :: c176 :: c177 :: c178 :: c179 :: c180 :: c181 :: c182 :: c183 :: c184 :: c185 :: c186 :: c187 :: c188 :: c189 :: c190 :: c191 :: c192 :: c193 :: c194 :: c195 :: c196 :: c197 :: c198 :: c199 :: c200 :: c201 :: c202 :: c203 :: c204 :: c205 :: c206 :: c207 :: c208 :: c209 :: c210 :: c211 :: c212 :: c213 :: c214 :: c215 :: c216 :: c217 :: c218 :: c219 :: c220 :: c221 :: c222 :: c223 :: c224 :: c225 :: c226 :: c227 :: c228 :: c229 :: c230 :: c231 :: c232 :: c233 :: c234 :: c235 :: c236 :: c237 :: c238 :: c239 :: c240 :: c241 :: c242 :: c243 :: c244 :: c245 :: c246 :: c247 :: c248 :: c249 :: c250 :: c251 :: c252 :: c253 :: c254 :: c255 :: c256 :: []).toArray, []⟩ wI0 := by
  conv => arg 2; arg 1; whnf
  have Hnt := Lib.hid hnt
  have Htok := Lib.hid htok
  have HQ0 := Lib.hid hQ
  have Hex := Lib.hid hexit
  obtain ⟨E, hE⟩ : ∃ E, E = itemsQ T NS (fuelQ T D0) D0 := ⟨_, rfl⟩
  have HE0 := Lib.hid hE
  rw [← hE] at Hex
  have hfu : fuelQ T D0 = T.length + 1 := by unfold fuelQ D0; simp
  have Hfu := Lib.hid hfu
  clear hnt htok hQ hexit hE hfu
  go_loopg [10] (fuelQ T D0) (fun k s10 wc => ∃ D, Q w1 wc w1.heap.size T NS [] D ∧ 1 ≤ k ∧ (D.e = 0 → T.length - D.i + 1 ≤ k ∧ Fine6 D) ∧ Hid (E = itemsQ T NS k D))
  case atStart => exact ⟨D0, HQ0.out, by rw [Hfu.out]; omega, fun _ => ⟨by rw [Hfu.out]; show T.length - 0 + 1 ≤ _; omega, ⟨Nat.le_refl _, by simp [D0], by simp [D0]⟩⟩, HE0⟩
  case round =>
    rename World => wl
    obtain ⟨D, hQ, hk1', hkf, Hk⟩ := hrel
    obtain ⟨k', rfl⟩ : ∃ k', gk = k' + 1 := ⟨gk - 1, by omega⟩
    obtain ⟨b', off', c', vp, vt, vn, vo, hC, -⟩ := hQ.cells
    have c1 := hC.c1
    have c2 := hC.c2
    have c3 := hC.c3
    have rlt := hC.lt
    clear hC
    obtain ⟨t, ht⟩ := at_lt (l := T) (k := D.i) hQ.1
    obtain ⟨b, off, e0, hbw, e1, -⟩ := tok_cells Htok.out hQ.below ht
    have hhd : D.hd T = t := by unfold QD.hd; rw [drop_at ht]; rfl
    subst e0
    have hii : (D.i : Int) < (nt : Int) := by have := hQ.1; have := Hnt.out; omega
    have HQl := Lib.hid hQ
    by_cases he : D.e = 0
    case neg =>
      have heb : (D.e == 0) = false := by simpa using he
      have HED : Hid (E = D) := Lib.hid (by rw [Hk.out, itemsQ_stop (fun e => he e.1)])
      clear hQ ht hhd he hkf hk1' c1 c3 e1 hbw hii
      go_wp2
      exact Hex.out D _ _ _ _ _ _ _ _ _ _ _ _ _ _ _ _ _ _ _ _ _ _ _ _ _ _ _ _ _ _ _ _ _ _ _ _ _ _ _ _ _ _ _ _ _ _ _ _ _ _ _ _ _ _ _ _ _ _ _ _ _ _ _ _ _ _ _ _ _ _ _ _ _ _ _ _ _ _ _ _ _ _ _ _ _ _ _ _ _ _ _ _ _ _ _ _ _ _ _ _ _ _ _ _ _ _ _ _ _ _ _ _ _ _ _ _ _ _ _ _ _ _ _ _ _ _ _ _ _ _ _ _ _ _ _ _ _ _ _ _ _ _ _ _ _ _ _ _ _ _ _ _ _ _ _ _ _ HQl.out HED.out
    rw [he] at c2
    by_cases hkd : t.kind = 0
    · have e1z : wl.cell? ⟨b, off + D.i * 4, none⟩ = some (.int .u8 0) := by rw [e1, hkd]; rfl
      have HED : Hid (E = D) := Lib.hid (by rw [Hk.out, itemsQ_stop (fun e => e.2 (by rw [hhd]; exact hkd))])
      clear hQ ht hhd he hkf hk1' e1 hkd c3
      go_wp2
      exact Hex.out D _ _ _ _ _ _ _ _ _ _ _ _ _ _ _ _ _ _ _ _ _ _ _ _ _ _ _ _ _ _ _ _ _ _ _ _ _ _ _ _ _ _ _ _ _ _ _ _ _ _ _ _ _ _ _ _ _ _ _ _ _ _ _ _ _ _ _ _ _ _ _ _ _ _ _ _ _ _ _ _ _ _ _ _ _ _ _ _ _ _ _ _ _ _ _ _ _ _ _ _ _ _ _ _ _ _ _ _ _ _ _ _ _ _ _ _ _ _ _ _ _ _ _ _ _ _ _ _ _ _ _ _ _ _ _ _ _ _ _ _ _ _ _ _ _ _ _ _ _ _ _ _ _ _ _ _ _ HQl.out HED.out
    · have hkb : ((t.kind : Int) == 0) = false := by simp; omega
      have Hk2 : Hid (E = itemsQ T NS k' (itemQ T NS D)) := Lib.hid (by rw [Hk.out, itemsQ_go ⟨he, by rw [hhd]; exact hkd⟩])
      obtain ⟨hk1f, hfin⟩ := hkf he
      have hi1 : D.i + 1 < T.length := good_more hQ.2.1 (by show (D.hd T).kind ≠ 0; rw [hhd]; exact hkd)
      have Hon : Hid ((itemQ T NS D).e = 0 → D.i < (itemQ T NS D).i ∧ Fine6 (itemQ T NS D)) := Lib.hid (itemQ_on he hi1 hfin)
      have Hfin := Lib.hid hfin
      have Hk1f := Lib.hid hk1f
      have Hi1 := Lib.hid hi1
      have htold : Hid (D.told.length ≤ 1000000) := Lib.hid (by have := hfin.told; have := Hnt.out; omega)
      obtain ⟨M, hM⟩ : ∃ M, M = (if seesD T 1 wPlace D = true then placeQ T D else if seesD T 1 wTrans D = true then transQ T NS D else failD T 6 D) := ⟨_, rfl⟩
      have HIM : Hid (itemQ T NS D = signD T [59] M) := Lib.hid (by rw [hM]; rfl)
      obtain ⟨p, hp⟩ : ∃ p, p = seesD T 1 wPlace D := ⟨_, rfl⟩
      obtain ⟨q, hq⟩ : ∃ q, q = seesD T 1 wTrans D := ⟨_, rfl⟩
      rw [← hp, ← hq] at hM
      have hse := sees_any hQ 1 wPlace
      rw [← hp] at hse
      have Hq := Lib.hid hq
      have HM := Lib.hid hM
      clear hQ ht hhd he hkf hk1' hkd hfin hk1f hi1 hM hp hq
      go_wp2_with fail
      refine hse.mono ?_
      rintro e wA ⟨rfl, hbA⟩
      have HQA := Lib.hid (HQl.out.go hbA)
      clear hse hbA c1 c2 c3 rlt e1 hbw hii hkb
      go_upto_if 104 with (fail)
      go_cut [8] from 87 to 238 (fun s8 wc => s8 = .pointer (some ⟨w1.heap.size, 0, none⟩) ∧ Q w1 wc w1.heap.size T NS [] M)
      case first =>
        cases p with
        | true =>
          refine wp_cond_true (by rfl) (code_of (place_code (nt := nt) Hnt.out htl2 htold.out Hfin.out HQA.out ?_))
          intro q10 q105 q106 q107 q108 q109 q110 q111 q112 q113 q114 q115 q116 q117 q118 q119 q120 q121 q122 q123 q124 q125 q126 q127 q128 q129 q130 q131 q132 q133 q134 q135 q136 q137
          intro wU hQU
          have HQU := Lib.hid hQU
          clear hQU
          go_wp2
          go_meet
          case rel => exact ⟨rfl, by rw [HM.out]; exact HQU.out⟩
        | false =>
          have hse := sees_any HQA.out 1 wTrans
          rw [← Hq.out] at hse
          go_wp2_with fail
          refine hse.mono ?_
          rintro e wB ⟨rfl, hbB⟩
          have HQB := Lib.hid (HQA.out.go hbB)
          clear hse hbB HQA
          cases q with
          | true =>
            go_upto_if 139 with (fail)
            refine wp_cond_true (by rfl) (code_of (tran_code (nt := nt) Hnt.out htl2 htold.out Hfin.out HQB.out ?_))
            intro q11 q12 q13 q140 q141 q142 q143 q144 q145 q146 q147 q148 q149 q150 q151 q152 q153 q154 q155 q156 q157 q158 q159 q160 q161 q162 q163 q164 q165 q166 q167 q168 q169 q170 q171 q172 q173 q174 q175 q176 q177 q178 q179 q180 q181 q182 q183 q184 q185 q186 q187 q188 q189 q190 q191 q192 q193 q194 q195 q196 q197 q198 q199 q200 q201 q202 q203 q204 q205 q206 q207 q208 q209 q210 q211 q212 q213 q214 q215 q216 q217 q218 q219 q220 q221 q222 q223 q224 q225 q226 q227 q228 q229 q230 q231 q232 q233 q234
            intro wU hQU
            have HQU := Lib.hid hQU
            clear hQU
            go_wp2
            go_meet
            case rel => exact ⟨rfl, by rw [HM.out]; exact HQU.out⟩
          | false =>
            have hfa := fail_any HQB.out 6
            go_wp2_with fail
            refine hfa.mono ?_
            rintro e wC ⟨rfl, hQC⟩
            have HQC := Lib.hid hQC
            clear hfa hQC HQB
            go_wp2
            go_meet
            case rel => exact ⟨rfl, by rw [HM.out]; exact HQC.out⟩
      case rest =>
        obtain ⟨rfl, hQM⟩ := hcut
        have hsg := sign_any hQM [59]
        rw [← HIM.out] at hsg
        clear hQM
        go_wp2_with fail
        refine hsg.mono ?_
        rintro e wZ ⟨rfl, hQZ⟩
        have HQZ := Lib.hid hQZ
        clear hsg hQZ
        go_wp2
        go_roundg k'
        case rel =>
          have h1 := HQl.out.1
          have h2 := Hk1f.out
          refine ⟨itemQ T NS D, HQZ.out, by omega, fun e => ?_, Hk2⟩
          obtain ⟨h3, h4⟩ := Hon.out e
          exact ⟨by omega, h4⟩
        case measure => omega
end Go.Proofs.Ytfiielibnnodkaa

/-! ## QParse -/
namespace Go.Proofs.Ytfiielibnnodkaa
open Go.RowKit
set_option linter.unusedVariables false

/-- what Parse answers -/
def RParseOut (B : Nat) (w' : World) (l : List UInt8) (v : Value) : Prop :=
  (∃ er p : Nat, lexL 0 l = .error (er, p) ∧ (er = 3 ∨ er = 6) ∧ p ≤ l.length ∧ v = .tuple #[.agg #[.slice none 0 0, .slice none 0 0], .int .i64 (er : Int), .int .i64 (p : Int)]) ∨
  (∃ T, lexL 0 l = .ok T ∧ (((endQ T).e ≠ 0 ∧ v = .tuple #[.agg #[.slice none 0 0, .slice none 0 0], .int .i64 (endQ T).e, .int .i64 (endQ T).at_]) ∨
    ((endQ T).e = 0 ∧ ∃ vp vt, NetAt w' vp vt (endQ T).n ∧ v = .tuple #[.agg #[vp, vt], .int .i64 0, .int .i64 0])))

section
variable {w : World} {A : Option Addr} {n : Nat} {l : List UInt8}

set_option maxRecDepth 100000 in
set_option maxHeartbeats 8000000 in
theorem rparse_any (h : BytesAt w A n l) (c : Nat) (hc : n ≤ c) (hn : n ≤ 800000) :
    Calls Try.prog 27 #[.slice A n c] w fun e w' => ∃ v, e = .returned v ∧ RParseOut w.heap.size w' l v ∧ Below w.heap.size w w' := by
  have hb0 : Below w.heap.size w (w.alloc (.cells #[.slice none 0 0, .slice none 0 0] 30)) := (Below.refl _ w).alloc (Nat.le_refl _) _
  have htk := rtokens_any (h.below hb0) c hc (by omega)
  have hll := h.len
  have Hb0 := Lib.hid hb0
  clear h hb0
  go_enter Try.func27, Try.ntmps27
  go_wp2_with fail
  refine htk.mono ?_
  rintro e w1 ⟨v, x, y, rfl, hout, hb1⟩
  have Hb1 := Lib.hid (Hb0.out.trans (hb1.mono (by simp)))
  have r0 : w1.cell? ⟨w.heap.size, 0, none⟩ = some (.slice none 0 0) := (below_cells hb1 _ _ (by simp)).trans (by go_simp)
  have r1 : w1.cell? ⟨w.heap.size, 1, none⟩ = some (.slice none 0 0) := (below_cells hb1 _ _ (by simp)).trans (by go_simp)
  have hs1 : w.heap.size < w1.heap.size := by have := hb1.size; simp at this; omega
  have hfz : ∀ j, w1.frozen? ⟨w.heap.size, j, none⟩ = false := fun j => by
    have := (Kept.of_below (S := fun _ => False) hb1).froz (b := w.heap.size) (o := j) (by simp) (fun e => e) (by go_simp)
    exact this
  clear htk hb1
  rcases hout with ⟨T, h1, h2, rfl, rfl⟩ | ⟨er, p, h1, her, hp, rfl, rfl, rfl⟩
  · have hok := lexL_all l.length l 0 T (Nat.le_refl _) (by omega) h1
    have htl := hok.len
    obtain ⟨at_, nt, ct, e⟩ := own_form3 h2
    subst e
    have htok : RowAt 4 w1 (.slice at_ nt ct) T.length (T.flatMap tokL) := RowAt.of_own h2
    have hnt : nt = T.length := by obtain ⟨a', c', e'⟩ := RowAt.len htok; injection e' with _ e' _
    have HL := Lib.hid h1
    have Hok := Lib.hid hok
    have Htok := Lib.hid htok
    have hQ0 : Q w1 (w1.alloc (.cells #[.slice at_ nt ct, .int .i64 0, .int .i64 0, .int .i64 0, .slice none 0 0, .slice none 0 0, .slice none 0 0, .slice none 0 0] 93)) w1.heap.size T [] [] D0 := by
      refine ⟨hok.good.len, hok.good, .slice at_ nt ct, .slice none 0 0, .slice none 0 0, .slice none 0 0, .slice none 0 0, [], htok, rfl, ?_, (Below.refl _ _).alloc (Nat.le_refl _) _⟩
      have g1 := (AllOwn.nil w1.heap.size w1).add ((Below.refl _ w1).alloc (Nat.le_refl _) _) (boxRow.new w1.heap.size w1 93 #[.slice at_ nt ct, .int .i64 0, .int .i64 0, .int .i64 0, .slice none 0 0, .slice none 0 0, .slice none 0 0, .slice none 0 0] (Nat.le_refl _)) (fun k e => by injection e with e; subst e; exact Nat.le_refl _)
      have g2 := g1.add (Below.refl _ _) (r := plRow (.slice none 0 0) []) (ownNil _ _ _ _) (fun k e => by cases e)
      have g3 := g2.add (Below.refl _ _) (r := trRow (.slice none 0 0) []) (ownNil _ _ _ _) (fun k e => by cases e)
      have g4 := g3.add (Below.refl _ _) (r := strRow (.slice none 0 0) []) (ownNil _ _ _ _) (fun k e => by cases e)
      exact g4.add (Below.refl _ _) (r := strRow (.slice none 0 0) []) (ownNil _ _ _ _) (fun k e => by cases e)
    have HQ0 := Lib.hid hQ0
    obtain ⟨NS, hNS⟩ : ∃ NS, NS = numsQ [] T := ⟨_, rfl⟩
    have HNS : Hid (NS = numsQ [] (T.drop 0)) := Lib.hid hNS
    have hNSl : Hid (numsQ [] T = NS) := Lib.hid hNS.symm
    have Hnt := Lib.hid hnt
    have htl2 : nt ≤ 800001 := by rw [hnt]; omega
    have hpos : 0 < nt := by rw [hnt]; exact hok.good.len
    have Hfz := Lib.hid hfz
    have Hr0 := Lib.hid r0
    have Hr1 := Lib.hid r1
    clear h1 h2 hok htok hQ0 hNS hnt htl hfz r0 r1
    go_wp2
    go_loopw [9] (fun i wr => ∃ k : Nat, ∃ ns, k + 1 ≤ nt ∧ i = .int .i64 k ∧ ns.length ≤ k ∧ Q w1 wr w1.heap.size T ns [] D0 ∧ Hid (NS = numsQ ns (T.drop k))) (fun i _ => nt - (intOf i).toNat)
    case atStart => exact ⟨0, [], by omega, rfl, by simp, HQ0.out, HNS⟩
    case round =>
      obtain ⟨k, ns, hk, rfl, hns, hQ, Hk⟩ := hrel
      obtain ⟨k1, hk1e⟩ : ∃ k1, k1 = k + 1 := ⟨_, rfl⟩
      have hkw : (k : Int) + 1 = (k1 : Int) := by omega
      have hww : IntKind.i64.wrap ((k : Int) + 1) = (k1 : Int) := by rw [hkw]; simp [IntKind.wrap, IntKind.bits, IntKind.signed]; omega
      by_cases hlt : k1 < nt
      · have hlti : (k1 : Int) < (nt : Int) := by omega
        have hkti : (k : Int) < (nt : Int) := by omega
        obtain ⟨t, ht⟩ := at_lt (l := T) (k := k) (by rw [← Hnt.out]; omega)
        obtain ⟨u, hu⟩ := at_lt (l := T) (k := k + 1) (by rw [← Hnt.out]; omega)
        have hQb := hQ.below
        obtain ⟨b, off, e0, hbw, e1, e2⟩ := tok_cells Htok.out hQb ht
        obtain ⟨b', off', e0', hbw', u1, u2⟩ := tok_cells Htok.out hQb hu
        rw [e0] at e0'
        injection e0' with e0'
        injection e0' with x1 x2 _
        subst x1 x2 e0
        rw [← hk1e] at u1 u2
        have hhu : hd (T.drop (k + 1)) = u := by rw [drop_at hu]; rfl
        have hne : T.drop (k + 1) ≠ [] := by rw [drop_at hu]; simp
        have Hst : Hid (numsQ ns (T.drop k) = numsQ (if t.kind = 1 ∧ t.text = wPlace ∧ u.kind = 1 ∧ hasSB ns (bs u.text) = false then ns ++ [bs u.text] else ns) (T.drop (k + 1))) := Lib.hid (by rw [numsQ_step ht, hhu]; simp only [hne, ne_eq, not_false_eq_true, true_and])
        have Hk1 := Lib.hid hk1e
        have HQ := Lib.hid hQ
        have hq : ((bs t.text).toList == [112, 108, 97, 99, 101]) = decide (t.text = wPlace) := by rw [bs_toList]; unfold wPlace; by_cases h : t.text = [112, 108, 97, 99, 101] <;> simp [h]
        have m1 := fun p : NewBy wr => NewBy.cell hbw e1 p
        have m2 := fun p : NewBy wr => NewBy.cell hbw e2 p
        have m3 := fun p : NewBy wr => NewBy.cell hbw u1 p
        have m4 := fun p : NewBy wr => NewBy.cell hbw u2 p
        have mb := fun p : NewBy wr => Nat.lt_of_lt_of_le hbw p.below.size
        obtain ⟨na, nc, c6, hna⟩ := hQ.ns_at
        obtain ⟨nn, hnn⟩ : ∃ n, n = ns.length := ⟨_, rfl⟩
        rw [← hnn] at c6 hna
        obtain ⟨_, _, _, _, _, _, _, hC, -⟩ := hQ.cells
        have hRl := hC.lt
        have m6 := fun p : NewBy wr => NewBy.cell hRl c6 p
        have ml := fun p : NewBy wr => Nat.lt_of_lt_of_le hRl p.below.size
        obtain ⟨K, hK⟩ : ∃ K, K = idxOf (fun x => sEq x (bs u.text)) ns := ⟨_, rfl⟩
        have hge := idxOf_ge (fun x => sEq x (bs u.text)) ns
        rw [← hK] at hge
        have K1 := Lib.hid (fun p : NewBy wr => (plidx_any (s := bs u.text) hnn (hna.below p.below)).mono (fun e w' (hh : _ ∧ _) => (⟨by rw [hK]; exact hh.1, by rw [hh.2]; exact Below.refl _ _⟩ : e = .returned (.int .i64 K) ∧ Below p.to.heap.size p.to w')))
        clear hQ hQb ht hu hhu hne hk1e hna hC hK hnn
        by_cases g1 : t.kind = 1
        case neg =>
          have g1b : ((t.kind : Int) == 1) = false := by simp; omega
          have Hr : Hid (NS = numsQ ns (T.drop (k + 1))) := Lib.hid (by rw [Hk.out, Hst.out, if_neg (by simp [g1])])
          clear g1 Hst hge
          go_wp2
          refine wp_region_new (by kernel_rfl) (by kernel_rfl) ?_
          repeat (go_big_quiet_step (first | (go_at_call 43; exact Calls.new_of (K1.out _))))
          refine wpQuiet_nil ?_
          intro wz hz
          obtain ⟨pz, hz⟩ := hz
          subst hz
          have HQz := Lib.hid (HQ.out.go pz.below)
          clear m1 m2 m3 m4 mb m6 ml K1 HQ
          go_wp2
          go_roundw
          case rel => exact ⟨k + 1, ns, by omega, by rw [Hk1.out], by omega, HQz.out, Hr⟩
          case measure => simp [intOf]; omega
        have g1b : ((t.kind : Int) == 1) = true := by rw [g1]; rfl
        by_cases g2 : t.text = wPlace
        case neg =>
          have Hr : Hid (NS = numsQ ns (T.drop (k + 1))) := Lib.hid (by rw [Hk.out, Hst.out, if_neg (by simp [g2])])
          rw [decide_eq_false g2] at hq
          clear g1 g2 Hst hge
          go_wp2
          refine wp_region_new (by kernel_rfl) (by kernel_rfl) ?_
          repeat (go_big_quiet_step (first | (go_at_call 43; exact Calls.new_of (K1.out _))))
          refine wpQuiet_nil ?_
          intro wz hz
          obtain ⟨pz, hz⟩ := hz
          subst hz
          have HQz := Lib.hid (HQ.out.go pz.below)
          clear m1 m2 m3 m4 mb m6 ml K1 HQ
          go_wp2
          go_roundw
          case rel => exact ⟨k + 1, ns, by omega, by rw [Hk1.out], by omega, HQz.out, Hr⟩
          case measure => simp [intOf]; omega
        rw [decide_eq_true g2] at hq
        by_cases g3 : u.kind = 1
        case neg =>
          have g3b : ((u.kind : Int) == 1) = false := by simp; omega
          have Hr : Hid (NS = numsQ ns (T.drop (k + 1))) := Lib.hid (by rw [Hk.out, Hst.out, if_neg (by simp [g3])])
          clear g1 g2 g3 Hst hge
          go_wp2
          refine wp_region_new (by kernel_rfl) (by kernel_rfl) ?_
          repeat (go_big_quiet_step (first | (go_at_call 43; exact Calls.new_of (K1.out _))))
          refine wpQuiet_nil ?_
          intro wz hz
          obtain ⟨pz, hz⟩ := hz
          subst hz
          have HQz := Lib.hid (HQ.out.go pz.below)
          clear m1 m2 m3 m4 mb m6 ml K1 HQ
          go_wp2
          go_roundw
          case rel => exact ⟨k + 1, ns, by omega, by rw [Hk1.out], by omega, HQz.out, Hr⟩
          case measure => simp [intOf]; omega
        have g3b : ((u.kind : Int) == 1) = true := by rw [g3]; rfl
        cases g4 : hasSB ns (bs u.text) with
        | true =>
          rw [show ns.any (fun x => sEq x (bs u.text)) = true from g4] at hge
          have hK0 : ¬ K < 0 := by have := of_decide_eq_true hge; omega
          have Hr : Hid (NS = numsQ ns (T.drop (k + 1))) := Lib.hid (by rw [Hk.out, Hst.out, if_neg (by simp [g4])])
          clear g1 g2 g3 g4 Hst hge
          go_wp2
          refine wp_region_new (by kernel_rfl) (by kernel_rfl) ?_
          repeat (go_big_quiet_step (first | (go_at_call 43; exact Calls.new_of (K1.out _))))
          refine wpQuiet_nil ?_
          intro wz hz
          obtain ⟨pz, hz⟩ := hz
          subst hz
          have HQz := Lib.hid (HQ.out.go pz.below)
          clear m1 m2 m3 m4 mb m6 ml K1 HQ
          go_wp2
          go_roundw
          case rel => exact ⟨k + 1, ns, by omega, by rw [Hk1.out], by omega, HQz.out, Hr⟩
          case measure => simp [intOf]; omega
        | false =>
          rw [show ns.any (fun x => sEq x (bs u.text)) = false from g4] at hge
          have hK0 : K < 0 := by have := of_decide_eq_false hge; omega
          have Hr : Hid (NS = numsQ (ns ++ [bs u.text]) (T.drop (k + 1))) := Lib.hid (by rw [Hk.out, Hst.out, if_pos ⟨g1, g2, g3, g4⟩])
          clear g1 g2 g3 g4 Hst hge
          go_wp2
          refine wp_region_new (by kernel_rfl) (by kernel_rfl) ?_
          repeat (go_big_quiet_step (first | (go_at_call 43; exact Calls.new_of (K1.out _))))
          refine wpQuiet_nil ?_
          intro wz hz
          obtain ⟨pz, hz⟩ := hz
          subst hz
          have hQz := HQ.out.go pz.below
          have z1 := m1 pz
          have z4 := m4 pz
          have zb := mb pz
          clear m1 m2 m3 m4 mb m6 ml K1
          revert hQz z1 z4 zb
          generalize pz.to = W
          intro hQz z1 z4 zb
          obtain ⟨vn, a6, n6, c6', w2, t0, ⟨a7, n7, c7, rfl⟩, hr, t1, t2, t3, hQ3⟩ := (hQz.go (Below.refl _ _).drew).addNs (bs u.text) (by omega)
          have hlz : w1.heap.size < W.heap.size := by
            obtain ⟨_, _, _, _, _, _, _, hC, -⟩ := hQz.cells
            exact hC.lt
          have HQ3 := Lib.hid hQ3
          replace t0 : W.cell? ⟨w1.heap.size, 6, none⟩ = some (.slice a7 n7 c7) := t0
          clear hQz hQ3 HQ
          have hw1 : IntKind.i64.wrap (k1 : Int) = (k1 : Int) := by simp [IntKind.wrap, IntKind.bits, IntKind.signed]; omega
          go_upto_region 9 with (fail)
          go_region_law (first | (refine step_append_eq (by rfl) (.tmp 76) (.tmp 83) 43 (by rfl) (by rfl) (by rfl) hr ?_))
          all_goals
            clear hr t0 t1 t2 z1 z4
            go_wp2
            go_roundw
            case rel => exact ⟨k + 1, ns ++ [bs u.text], by omega, by rw [Hk1.out], by simp; omega, HQ3.out, Hr⟩
            case measure => simp [intOf]; omega
      · have hge : ¬ (k1 : Int) < (nt : Int) := by omega
        have Hr : Hid (NS = ns) := Lib.hid (by rw [Hk.out, numsQ_last (by rw [← Hnt.out]; omega)])
        have HQ := Lib.hid hQ
        clear hQ
        obtain rfl : NS = ns := Hr.out
        have HEq : Hid (endQ T = itemsQ T NS (fuelQ T D0) D0) := Lib.hid (by unfold endQ; rw [hNSl.out])
        clear Hk hns hk1e Hr
        go_wp2
        clear hk
        refine main_loop (nt := nt) Hnt.out htl2 Htok.out HQ.out ?_
        intro D
        intro q10 q11 q12 q13 q87 q88 q89 q90 q91 q92 q93 q94 q95 q96 q97 q98 q99 q100 q101 q102 q103 q104 q105 q106 q107 q108 q109 q110 q111 q112 q113 q114 q115 q116 q117 q118 q119 q120 q121 q122 q123 q124 q125 q126 q127 q128 q129 q130 q131 q132 q133 q134 q135 q136 q137 q138 q139 q140 q141 q142 q143 q144 q145 q146 q147 q148 q149 q150 q151 q152 q153 q154 q155 q156 q157 q158 q159 q160 q161 q162 q163 q164 q165 q166 q167 q168 q169 q170 q171 q172 q173 q174 q175 q176 q177 q178 q179 q180 q181 q182 q183 q184 q185 q186 q187 q188 q189 q190 q191 q192 q193 q194 q195 q196 q197 q198 q199 q200 q201 q202 q203 q204 q205 q206 q207 q208 q209 q210 q211 q212 q213 q214 q215 q216 q217 q218 q219 q220 q221 q222 q223 q224 q225 q226 q227 q228 q229 q230 q231 q232 q233 q234 q235 q236 q237 q238
        intro wl hQ hED
        obtain ⟨b', off', c', vp, vt, vn, vo, hC, -⟩ := hQ.cells
        have c2 := hC.c2
        have c3 := hC.c3
        have rlt := hC.lt
        clear hC
        have hED2 : endQ T = D := HEq.out.trans hED
        have r0w : wl.cell? ⟨w.heap.size, 0, none⟩ = some (.slice none 0 0) := (below_cells hQ.below _ _ hs1).trans Hr0.out
        have r1w : wl.cell? ⟨w.heap.size, 1, none⟩ = some (.slice none 0 0) := (below_cells hQ.below _ _ hs1).trans Hr1.out
        have f0w : wl.frozen? ⟨w.heap.size, 0, none⟩ = false := (Kept.of_below (S := fun _ => False) hQ.below).froz hs1 (fun e => e) (Hfz.out 0)
        have f1w : wl.frozen? ⟨w.heap.size, 1, none⟩ = false := (Kept.of_below (S := fun _ => False) hQ.below).froz hs1 (fun e => e) (Hfz.out 1)
        have swl : w.heap.size < wl.heap.size := Nat.lt_of_lt_of_le hs1 hQ.below.size
        have HBl : Hid (Below w.heap.size w wl) := Lib.hid (Hb1.out.trans (hQ.below.mono Hb1.out.size))
        by_cases he : D.e = 0
        case neg =>
          have heb : (D.e == 0) = false := by simpa using he
          have HO : Hid (∀ W : World, RParseOut w.heap.size W l (.tuple #[.agg #[.slice none 0 0, .slice none 0 0], .int .i64 D.e, .int .i64 D.at_])) := Lib.hid (fun W => .inr ⟨T, HL.out, .inl ⟨by rw [hED2]; exact he, by rw [hED2]⟩⟩)
          clear hQ he hED hED2
          go_wp2
          go_region
          all_goals
            clear c2 c3 f0w f1w
            go_wp2
            exact bodyPost_ret (v := .tuple #[.agg #[.slice none 0 0, .slice none 0 0], .int .i64 D.e, .int .i64 D.at_]) (by simp [results, Try.results27, go_sem, r0w, r1w]) rfl ⟨_, rfl, HO.out _, by first | exact ((HBl.out.setCell (p := ⟨w.heap.size, 0, none⟩) (Nat.le_refl _) _).setCell (p := ⟨w.heap.size, 1, none⟩) (Nat.le_refl _) _).drew | exact ((HBl.out.drew.setCell (p := ⟨w.heap.size, 0, none⟩) (Nat.le_refl _) _).setCell (p := ⟨w.heap.size, 1, none⟩) (Nat.le_refl _) _)⟩
        rw [he] at c2
        obtain ⟨a1, n1, c1', a2, n2, c2', g4, g5, hnet⟩ := hQ.net
        have hkp : Kept (fun k => k < w1.heap.size) wl ((wl.setCell ⟨w.heap.size, 0, none⟩ (.slice a1 n1 c1')).setCell ⟨w.heap.size, 1, none⟩ (.slice a2 n2 c2')) := ((Kept.refl _ wl).setCell (p := ⟨w.heap.size, 0, none⟩) hs1 _).setCell (p := ⟨w.heap.size, 1, none⟩) hs1 _
        have HO : Hid (RParseOut w.heap.size ((wl.setCell ⟨w.heap.size, 0, none⟩ (.slice a1 n1 c1')).setCell ⟨w.heap.size, 1, none⟩ (.slice a2 n2 c2')) l (.tuple #[.agg #[.slice a1 n1 c1', .slice a2 n2 c2'], .int .i64 0, .int .i64 0])) := Lib.hid (.inr ⟨T, HL.out, .inr ⟨by rw [hED2]; exact he, _, _, by rw [hED2]; exact hnet _ hkp, rfl⟩⟩)
        have HBf : Hid (Below w.heap.size w ((wl.setCell ⟨w.heap.size, 0, none⟩ (.slice a1 n1 c1')).setCell ⟨w.heap.size, 1, none⟩ (.slice a2 n2 c2'))) := Lib.hid ((HBl.out.setCell (p := ⟨w.heap.size, 0, none⟩) (Nat.le_refl _) _).setCell (p := ⟨w.heap.size, 1, none⟩) (Nat.le_refl _) _)
        clear hQ he hED hED2 hnet hkp c3
        go_wp2
        exact bodyPost_ret (v := .tuple #[.agg #[.slice a1 n1 c1', .slice a2 n2 c2'], .int .i64 0, .int .i64 0]) (by simp [results, Try.results27, go_sem, r0w, r1w]) rfl ⟨_, rfl, HO.out, HBf.out⟩
  · have erb : ((er : Int) == 0) = false := by simp; omega
    have f0 := hfz 0
    have f1 := hfz 1
    have HO : Hid (RParseOut w.heap.size (((w1.setCell ⟨w.heap.size, 0, none⟩ (.slice none 0 0)).setCell ⟨w.heap.size, 1, none⟩ (.slice none 0 0))) l (.tuple #[.agg #[.slice none 0 0, .slice none 0 0], .int .i64 (er : Int), .int .i64 (p : Int)])) := Lib.hid (.inl ⟨er, p, h1, her, hp, rfl⟩)
    have Hbf : Hid (Below w.heap.size w ((w1.setCell ⟨w.heap.size, 0, none⟩ (.slice none 0 0)).setCell ⟨w.heap.size, 1, none⟩ (.slice none 0 0))) := Lib.hid ((Hb1.out.setCell (p := ⟨w.heap.size, 0, none⟩) (Nat.le_refl _) _).setCell (p := ⟨w.heap.size, 1, none⟩) (Nat.le_refl _) _)
    clear hfz h1 hp
    go_wp2
    exact bodyPost_ret (v := .tuple #[.agg #[.slice none 0 0, .slice none 0 0], .int .i64 (er : Int), .int .i64 (p : Int)]) (by simp [results, Try.results27, go_sem, r0, r1]) rfl ⟨_, rfl, HO.out, Hbf.out⟩
end
end Go.Proofs.Ytfiielibnnodkaa

/-! ## RSays -/
namespace Go.Proofs.Ytfiielibnnodkaa
open Go.RowKit
set_option linter.unusedVariables false

theorem rparse_says : RParseSays := by
  intro w A n c l h hc hn
  refine (rparse_any h c hc hn).mono ?_
  rintro e w' ⟨v, rfl, hout, hb⟩
  refine ⟨v, rfl, ?_, hb⟩
  rcases hout with ⟨er, p, h1, h2, h3, rfl⟩ | ⟨T, h1, h2⟩
  · exact .inl ⟨(er : Int), p, by unfold parseL; rw [h1], by omega, rfl⟩
  · have hok := lexL_all l.length l 0 T (Nat.le_refl _) (by have := h.len; omega) h1
    have hp : parseL l = parseT T := by unfold parseL; rw [h1]
    have hE : endQ T = endD T := rfl
    rw [hE] at h2
    rcases parse_same hok.good hok.all with ⟨n', q1, q2, q3⟩ | ⟨er, p, q1, q2, q3, q4⟩
    · rcases h2 with ⟨h3, _⟩ | ⟨h3, vp, vt, h4, rfl⟩
      · exact absurd q2 h3
      · exact .inr ⟨n', vp, vt, by rw [hp, q1], by rw [q3] at h4; exact h4, rfl⟩
    · rcases h2 with ⟨h3, rfl⟩ | ⟨h3, _⟩
      · exact .inl ⟨er, p, by rw [hp, q1], q2, by rw [q3, q4]⟩
      · exact absurd (q3.symm.trans h3) q2
end Go.Proofs.Ytfiielibnnodkaa
