/-
  The document's own parser: its main loop.
  Conditions: none beyond the theorem's own.
-/
import Derived.Test.YtfiielibnnodkaaQCases
import Derived.Test.YtfiielibnnodkaaTokRow
import Derived.Deep.RegionLaw
import Derived.Deep.LoopGhost
import Derived.Deep.CutRange
namespace Go.Proofs.Ytfiielibnnodkaa
open Go.RowKit
set_option linter.unusedVariables false

def D0 : QD := ⟨0, 0, 0, ⟨[], []⟩, []⟩
/-- what the tokens come to -/
def endQ (T : List Tok) : QD := itemsQ T (numsQ [] T) (fuelQ T D0) D0

theorem numsQ_step {ns : List ByteArray} {T : List Tok} {k : Nat} {t : Tok} (h : T[k]? = some t) :
    numsQ ns (T.drop k) = numsQ (if T.drop (k + 1) ≠ [] ∧ t.kind = 1 ∧ t.text = wPlace ∧ (hd (T.drop (k + 1))).kind = 1 ∧ hasSB ns (bs (hd (T.drop (k + 1))).text) = false then ns ++ [bs (hd (T.drop (k + 1))).text] else ns) (T.drop (k + 1)) := by
  rw [drop_at h]; rfl
theorem numsQ_last {ns : List ByteArray} {T : List Tok} {k : Nat} (h : T.length ≤ k + 1) : numsQ ns (T.drop k) = ns := by
  by_cases hk : k < T.length
  · obtain ⟨t, ht⟩ := at_lt hk
    rw [numsQ_step ht, List.drop_eq_nil_of_le h]
    rfl
  · rw [List.drop_eq_nil_of_le (by omega)]; rfl

/-- a token's cells, by its number -/
theorem tok_cells {w0 w : World} {a : Option Addr} {n c : Nat} {T : List Tok} (h : RowAt 4 w0 (.slice a n c) T.length (T.flatMap tokL)) (hb : Below w0.heap.size w0 w) {i : Nat} {t : Tok} (hi : T[i]? = some t) :
    ∃ b off, a = some ⟨b, off, none⟩ ∧ b < w.heap.size ∧ w.cell? ⟨b, off + i * 4, none⟩ = some (.int .u8 (t.kind : Int)) ∧ w.cell? ⟨b, off + i * 4 + 1, none⟩ = some (.string (bs t.text)) := by
  obtain ⟨b, off, e, hbb, hc⟩ := RowAt.elem tokL_len' h hi
  refine ⟨b, off, e, Nat.lt_of_lt_of_le hbb hb.size, ?_, ?_⟩
  · rw [below_cells hb b _ hbb]; exact hc 0 _ rfl
  · rw [below_cells hb b _ hbb]; exact hc 1 _ rfl

noncomputable def mainBody : Code := ((Try.f27.body.map loopsOf).getD []).getD 1 .skip

set_option maxRecDepth 1000000 in
set_option maxHeartbeats 8000000 in
theorem main_loop {w1 wI0 : World} {T : List Tok} {NS : List ByteArray} {nt ct : Nat} {at_ : Option Addr} {c0 c1 c2 c3 c4 c6 c7 c9 c10 c11 c12 c13 c14 c15 c16 c17 c18 c19 c20 c21 c22 c23 c24 c25 c26 c27 c28 c29 c30 c31 c32 c33 c34 c35 c36 c37 c38 c39 c40 c41 c42 c43 c44 c45 c46 c47 c48 c49 c50 c51 c52 c53 c54 c55 c56 c57 c58 c59 c60 c61 c62 c63 c64 c65 c66 c67 c68 c69 c70 c71 c72 c73 c74 c75 c76 c77 c78 c79 c80 c81 c82 c83 c84 c85 c86 c87 c88 c89 c90 c91 c92 c93 c94 c95 c96 c97 c98 c99 c100 c101 c102 c103 c104 c105 c106 c107 c108 c109 c110 c111 c112 c113 c114 c115 c116 c117 c118 c119 c120 c121 c122 c123 c124 c125 c126 c127 c128 c129 c130 c131 c132 c133 c134 c135 c136 c137 c138 c139 c140 c141 c142 c143 c144 c145 c146 c147 c148 c149 c150 c151 c152 c153 c154 c155 c156 c157 c158 c159 c160 c161 c162 c163 c164 c165 c166 c167 c168 c169 c170 c171 c172 c173 c174 c175 c176 c177 c178 c179 c180 c181 c182 c183 c184 c185 c186 c187 c188 c189 c190 c191 c192 c193 c194 c195 c196 c197 c198 c199 c200 c201 c202 c203 c204 c205 c206 c207 c208 c209 c210 c211 c212 c213 c214 c215 c216 c217 c218 c219 c220 c221 c222 c223 c224 c225 c226 c227 c228 c229 c230 c231 c232 c233 c234 c235 c236 c237 c238 c239 c240 c241 c242 c243 c244 c245 c246 c247 c248 c249 c250 c251 c252 c253 c254 c255 c256 : Value} {Qx : Exit → Act → World → Prop}
    (hnt : nt = T.length) (htl2 : nt ≤ 800001) (htok : RowAt 4 w1 (.slice at_ nt ct) T.length (T.flatMap tokL)) (hQ : Q w1 wI0 w1.heap.size T NS [] D0)
    (hexit : ∀ (D : QD) (u10 u11 u12 u13 u87 u88 u89 u90 u91 u92 u93 u94 u95 u96 u97 u98 u99 u100 u101 u102 u103 u104 u105 u106 u107 u108 u109 u110 u111 u112 u113 u114 u115 u116 u117 u118 u119 u120 u121 u122 u123 u124 u125 u126 u127 u128 u129 u130 u131 u132 u133 u134 u135 u136 u137 u138 u139 u140 u141 u142 u143 u144 u145 u146 u147 u148 u149 u150 u151 u152 u153 u154 u155 u156 u157 u158 u159 u160 u161 u162 u163 u164 u165 u166 u167 u168 u169 u170 u171 u172 u173 u174 u175 u176 u177 u178 u179 u180 u181 u182 u183 u184 u185 u186 u187 u188 u189 u190 u191 u192 u193 u194 u195 u196 u197 u198 u199 u200 u201 u202 u203 u204 u205 u206 u207 u208 u209 u210 u211 u212 u213 u214 u215 u216 u217 u218 u219 u220 u221 u222 u223 u224 u225 u226 u227 u228 u229 u230 u231 u232 u233 u234 u235 u236 u237 u238 : Value) (W' : World), Q w1 W' w1.heap.size T NS [] D → itemsQ T NS (fuelQ T D0) D0 = D → Qx (.exit 2) ⟨(c0 :: c1 :: c2 :: c3 :: c4 :: (.slice at_ nt ct) :: c6 :: c7 :: (.pointer (some ⟨w1.heap.size, 0, none⟩)) :: c9 :: u10 :: u11 :: u12 :: u13 :: c14 :: c15 :: c16 :: c17 :: c18 :: c19 :: c20 :: c21 :: c22 :: c23 :: c24 :: c25 :: c26 :: c27 :: c28 :: c29 :: c30 :: c31 :: c32 :: c33 :: c34 :: c35 :: c36 :: c37 :: c38 :: c39 :: c40 :: c41 :: c42 :: c43 :: c44 :: c45 :: c46 :: c47 :: c48 :: c49 :: c50 :: c51 :: c52 :: c53 :: c54 :: c55 :: c56 :: c57 :: c58 :: c59 :: c60 :: c61 :: c62 :: c63 :: c64 :: c65 :: c66 :: c67 :: c68 :: c69 :: c70 :: c71 :: c72 :: c73 :: c74 :: c75 :: c76 :: c77 :: c78 :: c79 :: c80 :: c81 :: c82 :: c83 :: c84 :: c85 :: c86 :: u87 :: u88 :: u89 :: u90 :: u91 :: u92 :: u93 :: u94 :: u95 :: u96 :: u97 :: u98 :: u99 :: u100 :: u101 :: u102 :: u103 :: u104 :: u105 :: u106 :: u107 :: u108 :: u109 :: u110 :: u111 :: u112 :: u113 :: u114 :: u115 :: u116 :: u117 :: u118 :: u119 :: u120 :: u121 :: u122 :: u123 :: u124 :: u125 :: u126 :: u127 :: u128 :: u129 :: u130 :: u131 :: u132 :: u133 :: u134 :: u135 :: u136 :: u137 :: u138 :: u139 :: u140 :: u141 :: u142 :: u143 :: u144 :: u145 :: u146 :: u147 :: u148 :: u149 :: u150 :: u151 :: u152 :: u153 :: u154 :: u155 :: u156 :: u157 :: u158 :: u159 :: u160 :: u161 :: u162 :: u163 :: u164 :: u165 :: u166 :: u167 :: u168 :: u169 :: u170 :: u171 :: u172 :: u173 :: u174 :: u175 :: u176 :: u177 :: u178 :: u179 :: u180 :: u181 :: u182 :: u183 :: u184 :: u185 :: u186 :: u187 :: u188 :: u189 :: u190 :: u191 :: u192 :: u193 :: u194 :: u195 :: u196 :: u197 :: u198 :: u199 :: u200 :: u201 :: u202 :: u203 :: u204 :: u205 :: u206 :: u207 :: u208 :: u209 :: u210 :: u211 :: u212 :: u213 :: u214 :: u215 :: u216 :: u217 :: u218 :: u219 :: u220 :: u221 :: u222 :: u223 :: u224 :: u225 :: u226 :: u227 :: u228 :: u229 :: u230 :: u231 :: u232 :: u233 :: u234 :: u235 :: u236 :: u237 :: u238 :: c239 :: c240 :: c241 :: c242 :: c243 :: c244 :: c245 :: c246 :: c247 :: c248 :: c249 :: c250 :: c251 :: c252 :: c253 :: c254 :: c255 :: c256 :: []).toArray, []⟩ W') :
    Code.wp Try.prog (Code.loop mainBody) Qx ⟨(c0 :: c1 :: c2 :: c3 :: c4 :: (.slice at_ nt ct) :: c6 :: c7 :: (.pointer (some ⟨w1.heap.size, 0, none⟩)) :: c9 :: c10 :: c11 :: c12 :: c13 :: c14 :: c15 :: c16 :: c17 :: c18 :: c19 :: c20 :: c21 :: c22 :: c23 :: c24 :: c25 :: c26 :: c27 :: c28 :: c29 :: c30 :: c31 :: c32 :: c33 :: c34 :: c35 :: c36 :: c37 :: c38 :: c39 :: c40 :: c41 :: c42 :: c43 :: c44 :: c45 :: c46 :: c47 :: c48 :: c49 :: c50 :: c51 :: c52 :: c53 :: c54 :: c55 :: c56 :: c57 :: c58 :: c59 :: c60 :: c61 :: c62 :: c63 :: c64 :: c65 :: c66 :: c67 :: c68 :: c69 :: c70 :: c71 :: c72 :: c73 :: c74 :: c75 :: c76 :: c77 :: c78 :: c79 :: c80 :: c81 :: c82 :: c83 :: c84 :: c85 :: c86 :: c87 :: c88 :: c89 :: c90 :: c91 :: c92 :: c93 :: c94 :: c95 :: c96 :: c97 :: c98 :: c99 :: c100 :: c101 :: c102 :: c103 :: c104 :: c105 :: c106 :: c107 :: c108 :: c109 :: c110 :: c111 :: c112 :: c113 :: c114 :: c115 :: c116 :: c117 :: c118 :: c119 :: c120 :: c121 :: c122 :: c123 :: c124 :: c125 :: c126 :: c127 :: c128 :: c129 :: c130 :: c131 :: c132 :: c133 :: c134 :: c135 :: c136 :: c137 :: c138 :: c139 :: c140 :: c141 :: c142 :: c143 :: c144 :: c145 :: c146 :: c147 :: c148 :: c149 :: c150 :: c151 :: c152 :: c153 :: c154 :: c155 :: c156 :: c157 :: c158 :: c159 :: c160 :: c161 :: c162 :: c163 :: c164 :: c165 :: c166 :: c167 :: c168 :: c169 :: c170 :: c171 :: c172 :: c173 :: c174 :: c175 :: c176 :: c177 :: c178 :: c179 :: c180 :: c181 :: c182 :: c183 :: c184 :: c185 :: c186 :: c187 :: c188 :: c189 :: c190 :: c191 :: c192 :: c193 :: c194 :: c195 :: c196 :: c197 :: c198 :: c199 :: c200 :: c201 :: c202 :: c203 :: c204 :: c205 :: c206 :: c207 :: c208 :: c209 :: c210 :: c211 :: c212 :: c213 :: c214 :: c215 :: c216 :: c217 :: c218 :: c219 :: c220 :: c221 :: c222 :: c223 :: c224 :: c225 :: c226 :: c227 :: c228 :: c229 :: c230 :: c231 :: c232 :: c233 :: c234 :: c235 :: c236 :: c237 :: c238 :: c239 :: c240 :: c241 :: c242 :: c243 :: c244 :: c245 :: c246 :: c247 :: c248 :: c249 :: c250 :: c251 :: c252 :: c253 :: c254 :: c255 :: c256 :: []).toArray, []⟩ wI0 := by
  conv => arg 2; arg 1; whnf
  have Hnt := Lib.hid hnt
  have Htok := Lib.hid htok
  have HQ0 := Lib.hid hQ
  have Hex := Lib.hid hexit
  obtain ⟨E, hE⟩ : ∃ E, E = itemsQ T NS (fuelQ T D0) D0 := ⟨_, rfl⟩
  have HE0 := Lib.hid hE
  rw [← hE] at Hex
  have hfu : fuelQ T D0 = T.length + 1 := by unfold fuelQ D0; simp
  have Hfu := Lib.hid hfu
  clear hnt htok hQ hexit hE hfu
  go_loopg [10] (fuelQ T D0) (fun k s10 wc => ∃ D, Q w1 wc w1.heap.size T NS [] D ∧ 1 ≤ k ∧ (D.e = 0 → T.length - D.i + 1 ≤ k ∧ Fine6 D) ∧ Hid (E = itemsQ T NS k D))
  case atStart => exact ⟨D0, HQ0.out, by rw [Hfu.out]; omega, fun _ => ⟨by rw [Hfu.out]; show T.length - 0 + 1 ≤ _; omega, ⟨Nat.le_refl _, by simp [D0], by simp [D0]⟩⟩, HE0⟩
  case round =>
    rename World => wl
    obtain ⟨D, hQ, hk1', hkf, Hk⟩ := hrel
    obtain ⟨k', rfl⟩ : ∃ k', gk = k' + 1 := ⟨gk - 1, by omega⟩
    obtain ⟨b', off', c', vp, vt, vn, vo, hC, -⟩ := hQ.cells
    have c1 := hC.c1
    have c2 := hC.c2
    have c3 := hC.c3
    have rlt := hC.lt
    clear hC
    obtain ⟨t, ht⟩ := at_lt (l := T) (k := D.i) hQ.1
    obtain ⟨b, off, e0, hbw, e1, -⟩ := tok_cells Htok.out hQ.below ht
    have hhd : D.hd T = t := by unfold QD.hd; rw [drop_at ht]; rfl
    subst e0
    have hii : (D.i : Int) < (nt : Int) := by have := hQ.1; have := Hnt.out; omega
    have HQl := Lib.hid hQ
    by_cases he : D.e = 0
    case neg =>
      have heb : (D.e == 0) = false := by simpa using he
      have HED : Hid (E = D) := Lib.hid (by rw [Hk.out, itemsQ_stop (fun e => he e.1)])
      clear hQ ht hhd he hkf hk1' c1 c3 e1 hbw hii
      go_wp2
      exact Hex.out D _ _ _ _ _ _ _ _ _ _ _ _ _ _ _ _ _ _ _ _ _ _ _ _ _ _ _ _ _ _ _ _ _ _ _ _ _ _ _ _ _ _ _ _ _ _ _ _ _ _ _ _ _ _ _ _ _ _ _ _ _ _ _ _ _ _ _ _ _ _ _ _ _ _ _ _ _ _ _ _ _ _ _ _ _ _ _ _ _ _ _ _ _ _ _ _ _ _ _ _ _ _ _ _ _ _ _ _ _ _ _ _ _ _ _ _ _ _ _ _ _ _ _ _ _ _ _ _ _ _ _ _ _ _ _ _ _ _ _ _ _ _ _ _ _ _ _ _ _ _ _ _ _ _ _ _ _ HQl.out HED.out
    rw [he] at c2
    by_cases hkd : t.kind = 0
    · have e1z : wl.cell? ⟨b, off + D.i * 4, none⟩ = some (.int .u8 0) := by rw [e1, hkd]; rfl
      have HED : Hid (E = D) := Lib.hid (by rw [Hk.out, itemsQ_stop (fun e => e.2 (by rw [hhd]; exact hkd))])
      clear hQ ht hhd he hkf hk1' e1 hkd c3
      go_wp2
      exact Hex.out D _ _ _ _ _ _ _ _ _ _ _ _ _ _ _ _ _ _ _ _ _ _ _ _ _ _ _ _ _ _ _ _ _ _ _ _ _ _ _ _ _ _ _ _ _ _ _ _ _ _ _ _ _ _ _ _ _ _ _ _ _ _ _ _ _ _ _ _ _ _ _ _ _ _ _ _ _ _ _ _ _ _ _ _ _ _ _ _ _ _ _ _ _ _ _ _ _ _ _ _ _ _ _ _ _ _ _ _ _ _ _ _ _ _ _ _ _ _ _ _ _ _ _ _ _ _ _ _ _ _ _ _ _ _ _ _ _ _ _ _ _ _ _ _ _ _ _ _ _ _ _ _ _ _ _ _ _ HQl.out HED.out
    · have hkb : ((t.kind : Int) == 0) = false := by simp; omega
      have Hk2 : Hid (E = itemsQ T NS k' (itemQ T NS D)) := Lib.hid (by rw [Hk.out, itemsQ_go ⟨he, by rw [hhd]; exact hkd⟩])
      obtain ⟨hk1f, hfin⟩ := hkf he
      have hi1 : D.i + 1 < T.length := good_more hQ.2.1 (by show (D.hd T).kind ≠ 0; rw [hhd]; exact hkd)
      have Hon : Hid ((itemQ T NS D).e = 0 → D.i < (itemQ T NS D).i ∧ Fine6 (itemQ T NS D)) := Lib.hid (itemQ_on he hi1 hfin)
      have Hfin := Lib.hid hfin
      have Hk1f := Lib.hid hk1f
      have Hi1 := Lib.hid hi1
      have htold : Hid (D.told.length ≤ 1000000) := Lib.hid (by have := hfin.told; have := Hnt.out; omega)
      obtain ⟨M, hM⟩ : ∃ M, M = (if seesD T 1 wPlace D = true then placeQ T D else if seesD T 1 wTrans D = true then transQ T NS D else failD T 6 D) := ⟨_, rfl⟩
      have HIM : Hid (itemQ T NS D = signD T [59] M) := Lib.hid (by rw [hM]; rfl)
      obtain ⟨p, hp⟩ : ∃ p, p = seesD T 1 wPlace D := ⟨_, rfl⟩
      obtain ⟨q, hq⟩ : ∃ q, q = seesD T 1 wTrans D := ⟨_, rfl⟩
      rw [← hp, ← hq] at hM
      have hse := sees_any hQ 1 wPlace
      rw [← hp] at hse
      have Hq := Lib.hid hq
      have HM := Lib.hid hM
      clear hQ ht hhd he hkf hk1' hkd hfin hk1f hi1 hM hp hq
      go_wp2_with fail
      refine hse.mono ?_
      rintro e wA ⟨rfl, hbA⟩
      have HQA := Lib.hid (HQl.out.go hbA)
      clear hse hbA c1 c2 c3 rlt e1 hbw hii hkb
      go_upto_if 104 with (fail)
      go_cut [8] from 87 to 238 (fun s8 wc => s8 = .pointer (some ⟨w1.heap.size, 0, none⟩) ∧ Q w1 wc w1.heap.size T NS [] M)
      case first =>
        cases p with
        | true =>
          refine wp_cond_true (by rfl) (code_of (place_code (nt := nt) Hnt.out htl2 htold.out Hfin.out HQA.out ?_))
          intro q10 q105 q106 q107 q108 q109 q110 q111 q112 q113 q114 q115 q116 q117 q118 q119 q120 q121 q122 q123 q124 q125 q126 q127 q128 q129 q130 q131 q132 q133 q134 q135 q136 q137
          intro wU hQU
          have HQU := Lib.hid hQU
          clear hQU
          go_wp2
          go_meet
          case rel => exact ⟨rfl, by rw [HM.out]; exact HQU.out⟩
        | false =>
          have hse := sees_any HQA.out 1 wTrans
          rw [← Hq.out] at hse
          go_wp2_with fail
          refine hse.mono ?_
          rintro e wB ⟨rfl, hbB⟩
          have HQB := Lib.hid (HQA.out.go hbB)
          clear hse hbB HQA
          cases q with
          | true =>
            go_upto_if 139 with (fail)
            refine wp_cond_true (by rfl) (code_of (tran_code (nt := nt) Hnt.out htl2 htold.out Hfin.out HQB.out ?_))
            intro q11 q12 q13 q140 q141 q142 q143 q144 q145 q146 q147 q148 q149 q150 q151 q152 q153 q154 q155 q156 q157 q158 q159 q160 q161 q162 q163 q164 q165 q166 q167 q168 q169 q170 q171 q172 q173 q174 q175 q176 q177 q178 q179 q180 q181 q182 q183 q184 q185 q186 q187 q188 q189 q190 q191 q192 q193 q194 q195 q196 q197 q198 q199 q200 q201 q202 q203 q204 q205 q206 q207 q208 q209 q210 q211 q212 q213 q214 q215 q216 q217 q218 q219 q220 q221 q222 q223 q224 q225 q226 q227 q228 q229 q230 q231 q232 q233 q234
            intro wU hQU
            have HQU := Lib.hid hQU
            clear hQU
            go_wp2
            go_meet
            case rel => exact ⟨rfl, by rw [HM.out]; exact HQU.out⟩
          | false =>
            have hfa := fail_any HQB.out 6
            go_wp2_with fail
            refine hfa.mono ?_
            rintro e wC ⟨rfl, hQC⟩
            have HQC := Lib.hid hQC
            clear hfa hQC HQB
            go_wp2
            go_meet
            case rel => exact ⟨rfl, by rw [HM.out]; exact HQC.out⟩
      case rest =>
        obtain ⟨rfl, hQM⟩ := hcut
        have hsg := sign_any hQM [59]
        rw [← HIM.out] at hsg
        clear hQM
        go_wp2_with fail
        refine hsg.mono ?_
        rintro e wZ ⟨rfl, hQZ⟩
        have HQZ := Lib.hid hQZ
        clear hsg hQZ
        go_wp2
        go_roundg k'
        case rel =>
          have h1 := HQl.out.1
          have h2 := Hk1f.out
          refine ⟨itemQ T NS D, HQZ.out, by omega, fun e => ?_, Hk2⟩
          obtain ⟨h3, h4⟩ := Hon.out e
          exact ⟨by omega, h4⟩
        case measure => omega
end Go.Proofs.Ytfiielibnnodkaa
