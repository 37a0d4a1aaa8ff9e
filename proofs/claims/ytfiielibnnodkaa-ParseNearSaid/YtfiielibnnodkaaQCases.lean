/-
  The document's own parser: a place. The document's own parser: a transition.
  Conditions: none beyond each theorem's own.
-/
import Derived.Test.YtfiielibnnodkaaQLoops2
import Derived.Deep.RegionLaw
import Derived.Deep.LoopGhost
import Derived.Deep.CutRange
/-! ## QCPlace -/
namespace Go.Proofs.Ytfiielibnnodkaa
open Go.RowKit
set_option linter.unusedVariables false

/-- it goes on behind -/
def normalPost (N : Act → World → Prop) : Exit → Act → World → Prop
  | .normal, a, w => N a w
  | _, _, _ => False
theorem code_of {P : Program} {c : Code} {Q : Exit → Act → World → Prop} {a : Act} {w : World} (h : c.wp P (normalPost (fun a w => Q .normal a w)) a w) : c.wp P Q a w :=
  wp_mono h (fun e a w h => by cases e <;> first | exact h | exact h.elim)
def findCond (k : Nat) : Code → Option (Code × Code)
  | .cond (.tmp j) a b => if j = k then some (a, b) else match findCond k a with
    | some r => some r
    | none => findCond k b
  | .cond _ a b => match findCond k a with
    | some r => some r
    | none => findCond k b
  | .loop c => findCond k c
  | .seq a b => match findCond k a with
    | some r => some r
    | none => findCond k b
  | .block _ c => findCond k c
  | .scope c => findCond k c
  | _ => none

noncomputable def placeCode : Code := (((Try.f27.body.getD .skip |> findCond 104).map (·.1)).getD .skip)

set_option maxRecDepth 1000000 in
set_option maxHeartbeats 8000000 in
theorem place_code {w1 wI0 : World} {T : List Tok} {NS : List ByteArray} {D : QD} {nt : Nat} {c0 c1 c2 c3 c4 c5 c6 c7 c9 c10 c11 c12 c13 c14 c15 c16 c17 c18 c19 c20 c21 c22 c23 c24 c25 c26 c27 c28 c29 c30 c31 c32 c33 c34 c35 c36 c37 c38 c39 c40 c41 c42 c43 c44 c45 c46 c47 c48 c49 c50 c51 c52 c53 c54 c55 c56 c57 c58 c59 c60 c61 c62 c63 c64 c65 c66 c67 c68 c69 c70 c71 c72 c73 c74 c75 c76 c77 c78 c79 c80 c81 c82 c83 c84 c85 c86 c87 c88 c89 c90 c91 c92 c93 c94 c95 c96 c97 c98 c99 c100 c101 c102 c103 c104 c105 c106 c107 c108 c109 c110 c111 c112 c113 c114 c115 c116 c117 c118 c119 c120 c121 c122 c123 c124 c125 c126 c127 c128 c129 c130 c131 c132 c133 c134 c135 c136 c137 c138 c139 c140 c141 c142 c143 c144 c145 c146 c147 c148 c149 c150 c151 c152 c153 c154 c155 c156 c157 c158 c159 c160 c161 c162 c163 c164 c165 c166 c167 c168 c169 c170 c171 c172 c173 c174 c175 c176 c177 c178 c179 c180 c181 c182 c183 c184 c185 c186 c187 c188 c189 c190 c191 c192 c193 c194 c195 c196 c197 c198 c199 c200 c201 c202 c203 c204 c205 c206 c207 c208 c209 c210 c211 c212 c213 c214 c215 c216 c217 c218 c219 c220 c221 c222 c223 c224 c225 c226 c227 c228 c229 c230 c231 c232 c233 c234 c235 c236 c237 c238 c239 c240 c241 c242 c243 c244 c245 c246 c247 c248 c249 c250 c251 c252 c253 c254 c255 c256 : Value} {Nx : Act → World → Prop}
    (hnt : nt = T.length) (htl2 : nt ≤ 800001) (htld : D.told.length ≤ 1000000) (hfin : Fine6 D) (hQ : Q w1 wI0 w1.heap.size T NS [] D)
    (hexit : ∀ (u10 u105 u106 u107 u108 u109 u110 u111 u112 u113 u114 u115 u116 u117 u118 u119 u120 u121 u122 u123 u124 u125 u126 u127 u128 u129 u130 u131 u132 u133 u134 u135 u136 u137 : Value) (W' : World), Q w1 W' w1.heap.size T NS [] (placeQ T D) → Nx ⟨(c0 :: c1 :: c2 :: c3 :: c4 :: c5 :: c6 :: c7 :: (.pointer (some ⟨w1.heap.size, 0, none⟩)) :: c9 :: u10 :: c11 :: c12 :: c13 :: c14 :: c15 :: c16 :: c17 :: c18 :: c19 :: c20 :: c21 :: c22 :: c23 :: c24 :: c25 :: c26 :: c27 :: c28 :: c29 :: c30 :: c31 :: c32 :: c33 :: c34 :: c35 :: c36 :: c37 :: c38 :: c39 :: c40 :: c41 :: c42 :: c43 :: c44 :: c45 :: c46 :: c47 :: c48 :: c49 :: c50 :: c51 :: c52 :: c53 :: c54 :: c55 :: c56 :: c57 :: c58 :: c59 :: c60 :: c61 :: c62 :: c63 :: c64 :: c65 :: c66 :: c67 :: c68 :: c69 :: c70 :: c71 :: c72 :: c73 :: c74 :: c75 :: c76 :: c77 :: c78 :: c79 :: c80 :: c81 :: c82 :: c83 :: c84 :: c85 :: c86 :: c87 :: c88 :: c89 :: c90 :: c91 :: c92 :: c93 :: c94 :: c95 :: c96 :: c97 :: c98 :: c99 :: c100 :: c101 :: c102 :: c103 :: c104 :: u105 :: u106 :: u107 :: u108 :: u109 :: u110 :: u111 :: u112 :: u113 :: u114 :: u115 :: u116 :: u117 :: u118 :: u119 :: u120 :: u121 :: u122 :: u123 :: u124 :: u125 :: u126 :: u127 :: u128 :: u129 :: u130 :: u131 :: u132 :: u133 :: u134 :: u135 :: u136 :: u137 :: c138 :: c139 :: c140 :: c141 :: c142 :: c143 :: c144 :: c145 :: c146 :: c147 :: c148 :: c149 :: c150 :: c151 :: c152 :: c153 :: c154 :: c155 :: c156 :: c157 :: c158 :: c159 :: c160 :: c161 :: c162 :: c163 :: c164 :: c165 :: c166 :: c167 :: c168 :: c169 :: c170 :: c171 :: c172 :: c173 :: c174 :: c175 :: c176 :: c177 :: c178 :: c179 :: c180 :: c181 :: c182 :: c183 :: c184 :: c185 :: c186 :: c187 :: c188 :: c189 :: c190 :: c191 :: c192 :: c193 :: c194 :: c195 :: c196 :: c197 :: c198 :: c199 :: c200 :: c201 :: c202 :: c203 :: c204 :: c205 :: c206 :: c207 :: c208 :: c209 :: c210 :: c211 :: c212 :: c213 :: c214 :: c215 :: c216 :: c217 :: c218 :: c219 :: c220 :: c221 :: c222 :: c223 :: c224 :: c225 :: c226 :: c227 :: c228 :: c229 :: c230 :: c231 :: c232 :: c233 :: c234 :: c235 :: c236 :: c237 :: c238 :: c239 :: c240 :: c241 :: c242 :: c243 :: c244 :: c245 :: c246 :: c247 :: c248 :: c249 :: c250 :: c251 :: c252 :: c253 :: c254 :: c255 :: c256 :: []).toArray, []⟩ W') :
    Code.wp Try.prog placeCode (normalPost Nx) ⟨(c0 :: c1 :: c2 :: c3 :: c4 :: c5 :: c6 :: c7 :: (.pointer (some ⟨w1.heap.size, 0, none⟩)) :: c9 :: c10 :: c11 :: c12 :: c13 :: c14 :: c15 :: c16 :: c17 :: c18 :: c19 :: c20 :: c21 :: c22 :: c23 :: c24 :: c25 :: c26 :: c27 :: c28 :: c29 :: c30 :: c31 :: c32 :: c33 :: c34 :: c35 :: c36 :: c37 :: c38 :: c39 :: c40 :: c41 :: c42 :: c43 :: c44 :: c45 :: c46 :: c47 :: c48 :: c49 :: c50 :: c51 :: c52 :: c53 :: c54 :: c55 :: c56 :: c57 :: c58 :: c59 :: c60 :: c61 :: c62 :: c63 :: c64 :: c65 :: c66 :: c67 :: c68 :: c69 :: c70 :: c71 :: c72 :: c73 :: c74 :: c75 :: c76 :: c77 :: c78 :: c79 :: c80 :: c81 :: c82 :: c83 :: c84 :: c85 :: c86 :: c87 :: c88 :: c89 :: c90 :: c91 :: c92 :: c93 :: c94 :: c95 :: c96 :: c97 :: c98 :: c99 :: c100 :: c101 :: c102 :: c103 :: c104 :: c105 :: c106 :: c107 :: c108 :: c109 :: c110 :: c111 :: c112 :: c113 :: c114 :: c115 :: c116 :: c117 :: c118 :: c119 :: c120 :: c121 :: c122 :: c123 :: c124 :: c125 :: c126 :: c127 :: c128 :: c129 :: c130 :: c131 :: c132 :: c133 :: c134 :: c135 :: c136 :: c137 :: c138 :: c139 :: c140 :: c141 :: c142 :: c143 :: c144 :: c145 :: c146 :: c147 :: c148 :: c149 :: c150 :: c151 :: c152 :: c153 :: c154 :: c155 :: c156 :: c157 :: c158 :: c159 :: c160 :: c161 :: c162 :: c163 :: c164 :: c165 :: c166 :: c167 :: c168 :: c169 :: c170 :: c171 :: c172 :: c173 :: c174 :: c175 :: c176 :: c177 :: c178 :: c179 :: c180 :: c181 :: c182 :: c183 :: c184 :: c185 :: c186 :: c187 :: c188 :: c189 :: c190 :: c191 :: c192 :: c193 :: c194 :: c195 :: c196 :: c197 :: c198 :: c199 :: c200 :: c201 :: c202 :: c203 :: c204 :: c205 :: c206 :: c207 :: c208 :: c209 :: c210 :: c211 :: c212 :: c213 :: c214 :: c215 :: c216 :: c217 :: c218 :: c219 :: c220 :: c221 :: c222 :: c223 :: c224 :: c225 :: c226 :: c227 :: c228 :: c229 :: c230 :: c231 :: c232 :: c233 :: c234 :: c235 :: c236 :: c237 :: c238 :: c239 :: c240 :: c241 :: c242 :: c243 :: c244 :: c245 :: c246 :: c247 :: c248 :: c249 :: c250 :: c251 :: c252 :: c253 :: c254 :: c255 :: c256 :: []).toArray, []⟩ wI0 := by
  conv => arg 2; whnf
  have Hnt := Lib.hid hnt
  have htold := Lib.hid htld
  have Hfin := Lib.hid hfin
  have HQA := Lib.hid hQ
  have Hex := Lib.hid hexit
  clear hnt htld hfin hQ hexit
  have hst := step_any HQA.out
  go_wp2_with fail
  refine hst.mono ?_
  rintro e wB ⟨rfl, hQB⟩
  have HQB := Lib.hid hQB
  obtain ⟨pa, pn, pc, g4, hpn⟩ := hQB.places_at
  obtain ⟨_, _, _, _, _, _, _, hC, -⟩ := hQB.cells
  have rlt := hC.lt
  have Hpn := Lib.hid hpn
  clear hst hQB HQA hC hpn
  go_upto_if 113 with (fail)
  go_cut [8] from 105 to 137 (fun s8 wc => s8 = .pointer (some ⟨w1.heap.size, 0, none⟩) ∧ Q w1 wc w1.heap.size T NS [] (placeQ2 T D))
  case first =>
    by_cases h32 : pn = 32
    · subst h32
      have Hd2 : Hid (placeQ2 T D = failD T 5 (stepD T D)) := Lib.hid (by unfold placeQ2 longD; rw [if_pos (by rw [← Hpn.out]; rfl)])
      have hfa := fail_any HQB.out 5
      rw [← Hd2.out] at hfa
      go_wp2_with fail
      refine hfa.mono ?_
      rintro e wC ⟨rfl, hQC⟩
      have HQC := Lib.hid hQC
      clear hfa hQC HQB g4
      go_wp2
      go_meet
      case rel => exact ⟨rfl, HQC.out⟩
    · have h32b : ((pn : Int) == 32) = false := by simp; omega
      have Hd2 : Hid (placeQ2 T D = stepD T D) := Lib.hid (by unfold placeQ2 longD; rw [if_neg (by rw [← Hpn.out]; simpa using h32)])
      clear h32
      go_wp2
      go_meet
      case rel => exact ⟨rfl, by rw [Hd2.out]; exact HQB.out⟩
  case rest =>
    obtain ⟨rfl, hQC⟩ := hcut
    rename World => wC
    clear g4 rlt HQB
    have Ht2 : Hid ((placeQ2 T D).told.length ≤ 1000000) := Lib.hid (by
      have h1 := (longD_adv (T := T) (D := stepD T D) (decide ((stepD T D).n.places.length = 32))).told
      have h2 := (stepD_adv (T := T) (D := D)).told
      unfold placeQ2
      rw [h1, h2]; exact htold.out)
    have hnm := pname_any hQC Ht2.out
    obtain ⟨nm, hnmE⟩ : ∃ nm, nm = bs ((placeQ2 T D).hd T).text := ⟨_, rfl⟩
    rw [← hnmE] at hnm
    have Hnm := Lib.hid hnmE
    clear hQC hnmE
    go_wp2_with fail
    refine hnm.mono ?_
    rintro e wD ⟨rfl, hQD⟩
    have hQx := hQD.box #[.string nm, .int .i64 0] 35
    obtain ⟨D3, hD3⟩ : ∃ D3, D3 = nameD T (placeQ2 T D) := ⟨_, rfl⟩
    rw [← hD3] at hQx
    have HD3 := Lib.hid hD3
    have HQx := Lib.hid hQx
    obtain ⟨sq, hsq⟩ : ∃ s, s = seesD T 3 [61] D3 := ⟨_, rfl⟩
    have hse := sees_any hQx 3 [61]
    rw [← hsq] at hse
    have Hsq := Lib.hid hsq
    clear hnm hQD hD3 hQx hsq
    go_wp2_with fail
    refine hse.mono ?_
    rintro e wE ⟨rfl, hbE⟩
    have HQE := Lib.hid (HQx.out.go hbE)
    obtain ⟨bx, hbx⟩ : ∃ bx, bx = wD.heap.size := ⟨_, rfl⟩
    rw [← hbx] at HQE
    rw [← hbx]
    clear hse hbE HQx hbx
    go_upto_if 120 with (fail)
    go_cut [8, 10] from 105 to 137 (fun s8 s10 wc => s8 = .pointer (some ⟨w1.heap.size, 0, none⟩) ∧ s10 = .pointer (some ⟨bx, 0, none⟩) ∧ Q w1 wc w1.heap.size T NS [boxRow bx 35 [.string nm, .int .i64 (optD T [61] D3).1]] (optD T [61] D3).2)
    case first =>
      cases sq with
      | true =>
        have Hod : Hid (optD T [61] D3 = numD T 0 (stepD T D3)) := Lib.hid (by unfold optD; rw [if_pos Hsq.out.symm])
        have hst := step_any HQE.out
        go_wp2_with fail
        refine hst.mono ?_
        rintro e wF ⟨rfl, hQF⟩
        have hnb := rnumber_any hQF 0
        rw [← Hod.out] at hnb
        clear hst hQF HQE
        go_wp2_with fail
        refine hnb.mono ?_
        rintro e wG ⟨rfl, hQG⟩
        obtain ⟨x1, x2, x3⟩ := hQG.boxAt (b := bx) (t := 35) (cs := [.string nm, .int .i64 0]) (by simp)
        have x11 := x1 1 _ rfl
        have x21 := x2 1
        have HQH := Lib.hid (hQG.setRow (pre := []) (post := []) 1 (.int .i64 (optD T [61] D3).1))
        clear hnb hQG x1 x2
        go_wp2
        go_meet
        case rel => exact ⟨rfl, rfl, HQH.out⟩
      | false =>
        have Hod : Hid (optD T [61] D3 = (0, D3)) := Lib.hid (by unfold optD; rw [if_neg (by rw [← Hsq.out]; simp)])
        go_wp2
        go_meet
        case rel => exact ⟨rfl, rfl, by rw [Hod.out]; exact HQE.out⟩
    case rest =>
      obtain ⟨rfl, rfl, hQI⟩ := hcut
      rename World => wI
      clear HQE
      have Hpl : Hid ((optD T [61] D3).2.n.places.length ≤ 1000000) := Lib.hid (by
        have h1 := (optD_adv (T := T) (D := D3) [61]).n
        have h2 : D3.n = (placeQ2 T D).n := by rw [HD3.out]; exact nameD_adv.1
        have h3 := (longD_adv (T := T) (D := stepD T D) (decide ((stepD T D).n.places.length = 32))).n
        have h4 := (stepD_adv (T := T) (D := D)).n
        have h5 := Hfin.out.pl
        have h6 : (placeQ2 T D).n = (stepD T D).n := h3
        rw [h1, h2, h6, h4]; omega)
      have HMe : Hid (placeQ T D = { (optD T [61] D3).2 with n := ⟨(optD T [61] D3).2.n.places ++ [⟨nm, (optD T [61] D3).1⟩], (optD T [61] D3).2.n.trans⟩ }) := Lib.hid (by unfold placeQ; rw [← HD3.out, ← Hnm.out])
      obtain ⟨x1, x2, x3⟩ := hQI.boxAt (b := bx) (t := 35) (cs := [.string nm, .int .i64 (optD T [61] D3).1]) (by simp)
      have x10 := x1 0 _ rfl
      have x11 := x1 1 _ rfl
      obtain ⟨_, _, _, _, _, _, _, hC, -⟩ := hQI.cells
      have rlt := hC.lt
      obtain ⟨vp', a6, n6, c6', w2, t0, ⟨a7, n7, c7, rfl⟩, hr, t1, t2, t3, hQ3⟩ := (hQI.go (Below.refl _ _).drew).addPl ⟨nm, (optD T [61] D3).1⟩ Hpl.out
      have HQ3 := Lib.hid (hQ3.drop (more := []))
      replace t0 : wI.cell? ⟨w1.heap.size, 4, none⟩ = some (.slice a7 n7 c7) := t0
      clear hQI hQ3 hC x1 x2
      go_upto_region 19 with (fail)
      go_region_law (first | (refine step_append_eq (by rfl) (.tmp 131) (.tmp 133) 27 (by rfl) (by rfl) (by rfl) hr ?_))
      all_goals
        clear hr t0 t1 t2 x10 x11
        go_wp2
        exact Hex.out _ _ _ _ _ _ _ _ _ _ _ _ _ _ _ _ _ _ _ _ _ _ _ _ _ _ _ _ _ _ _ _ _ _ _ (by rw [HMe.out]; exact HQ3.out)
end Go.Proofs.Ytfiielibnnodkaa

/-! ## QCTrans -/
namespace Go.Proofs.Ytfiielibnnodkaa
open Go.RowKit
set_option linter.unusedVariables false

noncomputable def tranCode : Code := (((Try.f27.body.getD .skip |> findCond 139).map (·.1)).getD .skip)

set_option maxRecDepth 1000000 in
set_option maxHeartbeats 8000000 in
theorem tran_code {w1 wI0 : World} {T : List Tok} {NS : List ByteArray} {D : QD} {nt : Nat} {c0 c1 c2 c3 c4 c5 c6 c7 c9 c10 c11 c12 c13 c14 c15 c16 c17 c18 c19 c20 c21 c22 c23 c24 c25 c26 c27 c28 c29 c30 c31 c32 c33 c34 c35 c36 c37 c38 c39 c40 c41 c42 c43 c44 c45 c46 c47 c48 c49 c50 c51 c52 c53 c54 c55 c56 c57 c58 c59 c60 c61 c62 c63 c64 c65 c66 c67 c68 c69 c70 c71 c72 c73 c74 c75 c76 c77 c78 c79 c80 c81 c82 c83 c84 c85 c86 c87 c88 c89 c90 c91 c92 c93 c94 c95 c96 c97 c98 c99 c100 c101 c102 c103 c104 c105 c106 c107 c108 c109 c110 c111 c112 c113 c114 c115 c116 c117 c118 c119 c120 c121 c122 c123 c124 c125 c126 c127 c128 c129 c130 c131 c132 c133 c134 c135 c136 c137 c138 c139 c140 c141 c142 c143 c144 c145 c146 c147 c148 c149 c150 c151 c152 c153 c154 c155 c156 c157 c158 c159 c160 c161 c162 c163 c164 c165 c166 c167 c168 c169 c170 c171 c172 c173 c174 c175 c176 c177 c178 c179 c180 c181 c182 c183 c184 c185 c186 c187 c188 c189 c190 c191 c192 c193 c194 c195 c196 c197 c198 c199 c200 c201 c202 c203 c204 c205 c206 c207 c208 c209 c210 c211 c212 c213 c214 c215 c216 c217 c218 c219 c220 c221 c222 c223 c224 c225 c226 c227 c228 c229 c230 c231 c232 c233 c234 c235 c236 c237 c238 c239 c240 c241 c242 c243 c244 c245 c246 c247 c248 c249 c250 c251 c252 c253 c254 c255 c256 : Value} {Nx : Act → World → Prop}
    (hnt : nt = T.length) (htl2 : nt ≤ 800001) (htld : D.told.length ≤ 1000000) (hfin : Fine6 D) (hQ : Q w1 wI0 w1.heap.size T NS [] D)
    (hexit : ∀ (u11 u12 u13 u140 u141 u142 u143 u144 u145 u146 u147 u148 u149 u150 u151 u152 u153 u154 u155 u156 u157 u158 u159 u160 u161 u162 u163 u164 u165 u166 u167 u168 u169 u170 u171 u172 u173 u174 u175 u176 u177 u178 u179 u180 u181 u182 u183 u184 u185 u186 u187 u188 u189 u190 u191 u192 u193 u194 u195 u196 u197 u198 u199 u200 u201 u202 u203 u204 u205 u206 u207 u208 u209 u210 u211 u212 u213 u214 u215 u216 u217 u218 u219 u220 u221 u222 u223 u224 u225 u226 u227 u228 u229 u230 u231 u232 u233 u234 : Value) (W' : World), Q w1 W' w1.heap.size T NS [] (transQ T NS D) → Nx ⟨(c0 :: c1 :: c2 :: c3 :: c4 :: c5 :: c6 :: c7 :: (.pointer (some ⟨w1.heap.size, 0, none⟩)) :: c9 :: c10 :: u11 :: u12 :: u13 :: c14 :: c15 :: c16 :: c17 :: c18 :: c19 :: c20 :: c21 :: c22 :: c23 :: c24 :: c25 :: c26 :: c27 :: c28 :: c29 :: c30 :: c31 :: c32 :: c33 :: c34 :: c35 :: c36 :: c37 :: c38 :: c39 :: c40 :: c41 :: c42 :: c43 :: c44 :: c45 :: c46 :: c47 :: c48 :: c49 :: c50 :: c51 :: c52 :: c53 :: c54 :: c55 :: c56 :: c57 :: c58 :: c59 :: c60 :: c61 :: c62 :: c63 :: c64 :: c65 :: c66 :: c67 :: c68 :: c69 :: c70 :: c71 :: c72 :: c73 :: c74 :: c75 :: c76 :: c77 :: c78 :: c79 :: c80 :: c81 :: c82 :: c83 :: c84 :: c85 :: c86 :: c87 :: c88 :: c89 :: c90 :: c91 :: c92 :: c93 :: c94 :: c95 :: c96 :: c97 :: c98 :: c99 :: c100 :: c101 :: c102 :: c103 :: c104 :: c105 :: c106 :: c107 :: c108 :: c109 :: c110 :: c111 :: c112 :: c113 :: c114 :: c115 :: c116 :: c117 :: c118 :: c119 :: c120 :: c121 :: c122 :: c123 :: c124 :: c125 :: c126 :: c127 :: c128 :: c129 :: c130 :: c131 :: c132 :: c133 :: c134 :: c135 :: c136 :: c137 :: c138 :: c139 :: u140 :: u141 :: u142 :: u143 :: u144 :: u145 :: u146 :: u147 :: u148 :: u149 :: u150 :: u151 :: u152 :: u153 :: u154 :: u155 :: u156 :: u157 :: u158 :: u159 :: u160 :: u161 :: u162 :: u163 :: u164 :: u165 :: u166 :: u167 :: u168 :: u169 :: u170 :: u171 :: u172 :: u173 :: u174 :: u175 :: u176 :: u177 :: u178 :: u179 :: u180 :: u181 :: u182 :: u183 :: u184 :: u185 :: u186 :: u187 :: u188 :: u189 :: u190 :: u191 :: u192 :: u193 :: u194 :: u195 :: u196 :: u197 :: u198 :: u199 :: u200 :: u201 :: u202 :: u203 :: u204 :: u205 :: u206 :: u207 :: u208 :: u209 :: u210 :: u211 :: u212 :: u213 :: u214 :: u215 :: u216 :: u217 :: u218 :: u219 :: u220 :: u221 :: u222 :: u223 :: u224 :: u225 :: u226 :: u227 :: u228 :: u229 :: u230 :: u231 :: u232 :: u233 :: u234 :: c235 :: c236 :: c237 :: c238 :: c239 :: c240 :: c241 :: c242 :: c243 :: c244 :: c245 :: c246 :: c247 :: c248 :: c249 :: c250 :: c251 :: c252 :: c253 :: c254 :: c255 :: c256 :: []).toArray, []⟩ W') :
    Code.wp Try.prog tranCode (normalPost Nx) ⟨(c0 :: c1 :: c2 :: c3 :: c4 :: c5 :: c6 :: c7 :: (.pointer (some ⟨w1.heap.size, 0, none⟩)) :: c9 :: c10 :: c11 :: c12 :: c13 :: c14 :: c15 :: c16 :: c17 :: c18 :: c19 :: c20 :: c21 :: c22 :: c23 :: c24 :: c25 :: c26 :: c27 :: c28 :: c29 :: c30 :: c31 :: c32 :: c33 :: c34 :: c35 :: c36 :: c37 :: c38 :: c39 :: c40 :: c41 :: c42 :: c43 :: c44 :: c45 :: c46 :: c47 :: c48 :: c49 :: c50 :: c51 :: c52 :: c53 :: c54 :: c55 :: c56 :: c57 :: c58 :: c59 :: c60 :: c61 :: c62 :: c63 :: c64 :: c65 :: c66 :: c67 :: c68 :: c69 :: c70 :: c71 :: c72 :: c73 :: c74 :: c75 :: c76 :: c77 :: c78 :: c79 :: c80 :: c81 :: c82 :: c83 :: c84 :: c85 :: c86 :: c87 :: c88 :: c89 :: c90 :: c91 :: c92 :: c93 :: c94 :: c95 :: c96 :: c97 :: c98 :: c99 :: c100 :: c101 :: c102 :: c103 :: c104 :: c105 :: c106 :: c107 :: c108 :: c109 :: c110 :: c111 :: c112 :: c113 :: c114 :: c115 :: c116 :: c117 :: c118 :: c119 :: c120 :: c121 :: c122 :: c123 :: c124 :: c125 :: c126 :: c127 :: c128 :: c129 :: c130 :: c131 :: c132 :: c133 :: c134 :: c135 :: c136 :: c137 :: c138 :: c139 :: c140 :: c141 :: c142 :: c143 :: c144 :: c145 :: c146 :: c147 :: c148 :: c149 :: c150 :: c151 :: c152 :: c153 :: c154 :: c155 :: c156 :: c157 :: c158 :: c159 :: c160 :: c161 :: c162 :: c163 :: c164 :: c165 :: c166 :: c167 :: c168 :: c169 :: c170 :: c171 :: c172 :: c173 :: c174 :: c175 :: c176 :: c177 :: c178 :: c179 :: c180 :: c181 :: c182 :: c183 :: c184 :: c185 :: c186 :: c187 :: c188 :: c189 :: c190 :: c191 :: c192 :: c193 :: c194 :: c195 :: c196 :: c197 :: c198 :: c199 :: c200 :: c201 :: c202 :: c203 :: c204 :: c205 :: c206 :: c207 :: c208 :: c209 :: c210 :: c211 :: c212 :: c213 :: c214 :: c215 :: c216 :: c217 :: c218 :: c219 :: c220 :: c221 :: c222 :: c223 :: c224 :: c225 :: c226 :: c227 :: c228 :: c229 :: c230 :: c231 :: c232 :: c233 :: c234 :: c235 :: c236 :: c237 :: c238 :: c239 :: c240 :: c241 :: c242 :: c243 :: c244 :: c245 :: c246 :: c247 :: c248 :: c249 :: c250 :: c251 :: c252 :: c253 :: c254 :: c255 :: c256 :: []).toArray, []⟩ wI0 := by
  conv => arg 2; whnf
  have Hnt := Lib.hid hnt
  have htold := Lib.hid htld
  have Hfin := Lib.hid hfin
  have HQB := Lib.hid hQ
  have Hex := Lib.hid hexit
  clear hnt htld hfin hQ hexit
  have hst := step_any HQB.out
  go_wp2_with fail
  refine hst.mono ?_
  rintro e wC ⟨rfl, hQC⟩
  have HQC := Lib.hid hQC
  obtain ⟨pa, pn, pc, g5, hpn⟩ := hQC.trans_at
  obtain ⟨_, _, _, _, _, _, _, hC, -⟩ := hQC.cells
  have rlt := hC.lt
  have Hpn := Lib.hid hpn
  clear hst hQC HQB hC hpn
  go_upto_if 148 with (fail)
  go_cut [8] from 140 to 234 (fun s8 wc => s8 = .pointer (some ⟨w1.heap.size, 0, none⟩) ∧ Q w1 wc w1.heap.size T NS [] (transQ2 T D))
  case first =>
    by_cases h32 : pn = 32
    · subst h32
      have Hd2 : Hid (transQ2 T D = failD T 5 (stepD T D)) := Lib.hid (by unfold transQ2 longD; rw [if_pos (by rw [← Hpn.out]; rfl)])
      have hfa := fail_any HQC.out 5
      rw [← Hd2.out] at hfa
      go_wp2_with fail
      refine hfa.mono ?_
      rintro e wD ⟨rfl, hQD⟩
      have HQD := Lib.hid hQD
      clear hfa hQD HQC g5
      go_wp2
      go_meet
      case rel => exact ⟨rfl, HQD.out⟩
    · have h32b : ((pn : Int) == 32) = false := by simp; omega
      have Hd2 : Hid (transQ2 T D = stepD T D) := Lib.hid (by unfold transQ2 longD; rw [if_neg (by rw [← Hpn.out]; simpa using h32)])
      clear h32
      go_wp2
      go_meet
      case rel => exact ⟨rfl, by rw [Hd2.out]; exact HQC.out⟩
  case rest =>
    obtain ⟨rfl, hQD⟩ := hcut
    rename World => wD
    clear g5 rlt HQC
    have Ht2 : Hid ((transQ2 T D).told.length ≤ 1000000) := Lib.hid (by
      have h1 := (longD_adv (T := T) (D := stepD T D) (decide ((stepD T D).n.trans.length = 32))).told
      have h2 := (stepD_adv (T := T) (D := D)).told
      unfold transQ2
      rw [h1, h2]; exact htold.out)
    have hnm := pname_any hQD Ht2.out
    obtain ⟨nm, hnmE⟩ : ∃ nm, nm = bs ((transQ2 T D).hd T).text := ⟨_, rfl⟩
    rw [← hnmE] at hnm
    have Hnm := Lib.hid hnmE
    clear hQD hnmE
    go_wp2_with fail
    refine hnm.mono ?_
    rintro e wE ⟨rfl, hQE⟩
    obtain ⟨D3, hD3⟩ : ∃ D3, D3 = nameD T (transQ2 T D) := ⟨_, rfl⟩
    rw [← hD3] at hQE
    have hQx := hQE.tran (b := 0) (nm := nm)
    have HD3 := Lib.hid hD3
    have HQx := Lib.hid hQx
    obtain ⟨sq, hsq⟩ : ∃ s, s = seesD T 3 [64] D3 := ⟨_, rfl⟩
    have hse := sees_any hQx 3 [64]
    rw [← hsq] at hse
    have Hsq := Lib.hid hsq
    clear hnm hQE hD3 hQx hsq
    go_wp2_with fail
    refine hse.mono ?_
    rintro e wF ⟨rfl, hbF⟩
    have HQF := Lib.hid (HQx.out.go hbF)
    obtain ⟨bt, hbt⟩ : ∃ bt, bt = wE.heap.size := ⟨_, rfl⟩
    rw [← hbt] at HQF
    rw [← hbt]
    clear hse hbF HQx hbt
    obtain ⟨D4, hD4⟩ : ∃ D4, D4 = (optD T [64] D3).2 := ⟨_, rfl⟩
    obtain ⟨dl, hdl⟩ : ∃ dl, dl = (optD T [64] D3).1 := ⟨_, rfl⟩
    have HD4 := Lib.hid hD4
    have Hdl := Lib.hid hdl
    clear hD4 hdl
    go_upto_if 155 with (fail)
    go_cut [8, 11] from 140 to 234 (fun s8 s11 wc => s8 = .pointer (some ⟨w1.heap.size, 0, none⟩) ∧ s11 = .pointer (some ⟨bt, 0, none⟩) ∧ Q w1 wc w1.heap.size T NS (qTr bt nm dl 0 (.slice none 0 0) (.slice none 0 0) (.slice none 0 0) [] [] []) D4)
    case first =>
      cases sq with
      | true =>
        have Hod : Hid (optD T [64] D3 = numD T 0 (stepD T D3)) := Lib.hid (by unfold optD; rw [if_pos Hsq.out.symm])
        have hst := step_any HQF.out
        go_wp2_with fail
        refine hst.mono ?_
        rintro e wG ⟨rfl, hQG⟩
        have hnb := rnumber_any hQG 0
        rw [← Hod.out, ← HD4.out, ← Hdl.out] at hnb
        clear hst hQG HQF
        go_wp2_with fail
        refine hnb.mono ?_
        rintro e wH ⟨rfl, hQH⟩
        obtain ⟨x1, x2, x3⟩ := hQH.boxAt (b := bt) (t := 40) (cs := [.string nm, .int .i64 0, .int .i64 0, (.slice none 0 0), (.slice none 0 0), (.slice none 0 0)]) (by simp [qTr])
        have x11 := x1 1 _ rfl
        have x21 := x2 1
        have HQI := Lib.hid (hQH.setRow (pre := []) (b := bt) (t := 40) (cs := [.string nm, .int .i64 0, .int .i64 0, (.slice none 0 0), (.slice none 0 0), (.slice none 0 0)]) (post := [arcRow (.slice none 0 0) [], arcRow (.slice none 0 0) [], arcRow (.slice none 0 0) []]) 1 (.int .i64 dl))
        clear hnb hQH x1 x2
        go_wp2
        go_meet
        case rel => exact ⟨rfl, rfl, HQI.out⟩
      | false =>
        have Hod : Hid (optD T [64] D3 = (0, D3)) := Lib.hid (by unfold optD; rw [if_neg (by rw [← Hsq.out]; simp)])
        go_wp2
        go_meet
        case rel => exact ⟨rfl, rfl, by rw [Hdl.out, HD4.out, Hod.out]; exact HQF.out⟩
    case rest =>
      obtain ⟨rfl, rfl, hQI⟩ := hcut
      rename World => wI
      clear HQF
      obtain ⟨s2, hs2⟩ : ∃ s, s = seesD T 3 [33] D4 := ⟨_, rfl⟩
      have hse := sees_any hQI 3 [33]
      rw [← hs2] at hse
      have Hs2 := Lib.hid hs2
      have HQI := Lib.hid hQI
      obtain ⟨D5, hD5⟩ : ∃ D5, D5 = (optD T [33] D4).2 := ⟨_, rfl⟩
      obtain ⟨pr, hpr⟩ : ∃ pr, pr = (optD T [33] D4).1 := ⟨_, rfl⟩
      have HD5 := Lib.hid hD5
      have Hpr := Lib.hid hpr
      clear hQI hs2 hD5 hpr
      go_wp2_with fail
      refine hse.mono ?_
      rintro e wJ ⟨rfl, hbJ⟩
      have HQJ := Lib.hid (HQI.out.go hbJ)
      clear hse hbJ HQI
      go_upto_if 162 with (fail)
      go_cut [8, 11] from 140 to 234 (fun s8 s11 wc => s8 = .pointer (some ⟨w1.heap.size, 0, none⟩) ∧ s11 = .pointer (some ⟨bt, 0, none⟩) ∧ Q w1 wc w1.heap.size T NS (qTr bt nm dl pr (.slice none 0 0) (.slice none 0 0) (.slice none 0 0) [] [] []) D5)
      case first =>
        cases s2 with
        | true =>
          have Hod : Hid (optD T [33] D4 = numD T 0 (stepD T D4)) := Lib.hid (by unfold optD; rw [if_pos Hs2.out.symm])
          have hst := step_any HQJ.out
          go_wp2_with fail
          refine hst.mono ?_
          rintro e wG ⟨rfl, hQG⟩
          have hnb := rnumber_any hQG 0
          rw [← Hod.out, ← HD5.out, ← Hpr.out] at hnb
          clear hst hQG HQJ
          go_wp2_with fail
          refine hnb.mono ?_
          rintro e wH ⟨rfl, hQH⟩
          obtain ⟨x1, x2, x3⟩ := hQH.boxAt (b := bt) (t := 40) (cs := [.string nm, .int .i64 dl, .int .i64 0, (.slice none 0 0), (.slice none 0 0), (.slice none 0 0)]) (by simp [qTr])
          have x11 := x1 2 _ rfl
          have x21 := x2 2
          have HQK := Lib.hid (hQH.setRow (pre := []) (b := bt) (t := 40) (cs := [.string nm, .int .i64 dl, .int .i64 0, (.slice none 0 0), (.slice none 0 0), (.slice none 0 0)]) (post := [arcRow (.slice none 0 0) [], arcRow (.slice none 0 0) [], arcRow (.slice none 0 0) []]) 2 (.int .i64 pr))
          clear hnb hQH x1 x2
          go_wp2
          go_meet
          case rel => exact ⟨rfl, rfl, HQK.out⟩
        | false =>
          have Hod : Hid (optD T [33] D4 = (0, D4)) := Lib.hid (by unfold optD; rw [if_neg (by rw [← Hs2.out]; simp)])
          go_wp2
          go_meet
          case rel => exact ⟨rfl, rfl, by rw [Hpr.out, HD5.out, Hod.out]; exact HQJ.out⟩
      case rest =>
        obtain ⟨rfl, rfl, hQK⟩ := hcut
        rename World => wK
        clear HQJ
        have hsg := sign_any hQK [58]
        obtain ⟨D6, hD6⟩ : ∃ D6, D6 = signD T [58] D5 := ⟨_, rfl⟩
        rw [← hD6] at hsg
        have HD6 := Lib.hid hD6
        obtain ⟨X, hX⟩ : ∃ X, X = loopQ T [45, 62] (lookQ1 T NS) (fuelQ T D6) 0 ⟨D6, [], [], []⟩ := ⟨_, rfl⟩
        have HX := Lib.hid hX
        clear hQK hD6 hX
        go_wp2_with fail
        refine hsg.mono ?_
        rintro e wL ⟨rfl, hQL⟩
        have HQL := Lib.hid hQL
        have HfL : Hid (1 ≤ fuelQ T D6 ∧ fuelQ T D6 ≤ nt + 1 ∧ (D6.e = 0 → T.length - D6.i + 1 ≤ fuelQ T D6)) := Lib.hid (by
          have h1 := Hnt.out
          unfold fuelQ
          by_cases h : D6.e = 0
          · rw [if_pos h]; exact ⟨by omega, by omega, fun _ => Nat.le_refl _⟩
          · rw [if_neg h]; exact ⟨by omega, by omega, fun e => absurd e h⟩)
        clear hsg hQL
        go_wp2
        have hlk := HQL.out
        refine look_loop (nt := nt) Hnt.out htl2 hlk ?_
        intro x A1 N1 C1 A2 N2 C2 A3 N3 C3
        intro q12 q170 q171 q172 q173 q174 q175 q176 q177 q178 q179 q180 q181 q182 q183 q184 q185 q186 q187 q188 q189 q190 q191 q192 q193 q194 q195 q196 q197 q198 q199
        intro wN hQN hxE hxo
        have HQN := Lib.hid hQN
        have Hxo := Lib.hid hxo
        have HXx : Hid (X = x) := Lib.hid (by rw [HX.out]; exact hxE.symm)
        clear hlk hQN hxE hxo HQL
        have hsg := sign_any HQN.out [45, 62]
        obtain ⟨D7, hD7⟩ : ∃ D7, D7 = signD T [45, 62] x.D := ⟨_, rfl⟩
        rw [← hD7] at hsg
        have HD7 := Lib.hid hD7
        obtain ⟨Y, hY⟩ : ∃ Y, Y = loopQ T [59] (outQ1 T NS) (fuelQ T D7) 0 ⟨D7, x.inn, x.nt, []⟩ := ⟨_, rfl⟩
        have HY := Lib.hid hY
        clear hD7 hY HQN
        go_wp2_with fail
        refine hsg.mono ?_
        rintro e wP ⟨rfl, hQP⟩
        have HQP := Lib.hid hQP
        have HfP : Hid (1 ≤ fuelQ T D7 ∧ fuelQ T D7 ≤ nt + 1 ∧ (D7.e = 0 → T.length - D7.i + 1 ≤ fuelQ T D7)) := Lib.hid (by
          have h1 := Hnt.out
          unfold fuelQ
          by_cases h : D7.e = 0
          · rw [if_pos h]; exact ⟨by omega, by omega, fun _ => Nat.le_refl _⟩
          · rw [if_neg h]; exact ⟨by omega, by omega, fun e => absurd e h⟩)
        clear hsg hQP
        go_wp2
        have hlk := HQP.out
        rw [Hxo.out] at hlk
        refine outs_loop (nt := nt) Hnt.out htl2 hlk ?_
        intro y B1 M1 E1 B2 M2 E2 B3 M3 E3
        intro q13 q202 q203 q204 q205 q206 q207 q208 q209 q210 q211 q212 q213 q214 q215 q216 q217 q218 q219 q220 q221 q222
        intro wS hQN hyE _
        have HQN := Lib.hid hQN
        have HYy : Hid (Y = y) := Lib.hid (by rw [HY.out]; exact hyE.symm)
        clear hlk hQN hyE HQP
        have HMe : Hid (transQ T NS D = { y.D with n := ⟨y.D.n.places, y.D.n.trans ++ [⟨nm, dl, pr, y.inn, y.nt, y.out⟩]⟩ }) := Lib.hid (by
          have h1 : (headQ T D).2 = D6 := by unfold headQ; rw [HD6.out, HD5.out, HD4.out, HD3.out]
          have h2 : (headQ T D).1 = (nm, dl, pr) := by unfold headQ; rw [Hnm.out, Hpr.out, Hdl.out, HD4.out, HD3.out]
          have h3 : listsQ T NS D6 = y := by unfold listsQ; rw [← HX.out, HXx.out, ← HD7.out]; simp only [Hxo.out]; rw [← HYy.out, HY.out]
          unfold transQ
          rw [h1, h2, h3])
        have Htl : Hid (y.D.n.trans.length ≤ 1000000) := Lib.hid (by
          have h0 := (loopQ_adv (T := T) (one := outQ1 T NS) (fun k x => (outQ1_adv k x).adv) [59] (fuelQ T D7) 0 ⟨D7, x.inn, x.nt, []⟩).n
          rw [← HY.out, HYy.out] at h0
          have h1 := (signD_adv (T := T) (D := x.D) [45, 62]).n
          rw [← HD7.out] at h1
          have h2 := (loopQ_adv (T := T) (one := lookQ1 T NS) (fun k x => (lookQ1_adv k x).adv) [45, 62] (fuelQ T D6) 0 ⟨D6, [], [], []⟩).n
          rw [← HX.out, HXx.out] at h2
          have h3 := (signD_adv (T := T) (D := D5) [58]).n
          rw [← HD6.out] at h3
          have h4 := (optD_adv (T := T) (D := D4) [33]).n
          rw [← HD5.out] at h4
          have h5 := (optD_adv (T := T) (D := D3) [64]).n
          rw [← HD4.out] at h5
          have h6 : D3.n = (transQ2 T D).n := by rw [HD3.out]; exact nameD_adv.1
          have h7 : (transQ2 T D).n = (stepD T D).n := (longD_adv (T := T) (D := stepD T D) (decide ((stepD T D).n.trans.length = 32))).n
          have h8 := (stepD_adv (T := T) (D := D)).n
          have h9 := Hfin.out.tr
          simp only at h0 h2
          rw [h0, h1, h2, h3, h4, h5, h6, h7, h8]; omega)
        obtain ⟨x1, x2, x3⟩ := HQN.out.boxAt (b := bt) (t := 40) (cs := [.string nm, .int .i64 dl, .int .i64 pr, .slice B1 M1 E1, .slice B2 M2 E2, .slice B3 M3 E3]) (by simp [qTr])
        have y0 := x1 0 _ rfl
        have y1 := x1 1 _ rfl
        have y2 := x1 2 _ rfl
        have y3 := x1 3 _ rfl
        have y4 := x1 4 _ rfl
        have y5 := x1 5 _ rfl
        obtain ⟨_, _, _, _, _, _, _, hC, -⟩ := HQN.out.cells
        have rlt := hC.lt
        obtain ⟨vt', a6, n6, c6', w2, t0, ⟨a7, n7, c7, rfl⟩, hr, t1, t2, t3, hQ3⟩ := Q.addTr (more := []) (HQN.out.go (Below.refl _ _).drew) rfl rfl rfl Htl.out
        have HQ3 := Lib.hid hQ3
        replace t0 : wS.cell? ⟨w1.heap.size, 5, none⟩ = some (.slice a7 n7 c7) := t0
        clear hQ3 hC x1 x2 HQN
        go_upto_region 48 with (fail)
        go_region_law (first | (refine step_append_eq (by rfl) (.tmp 228) (.tmp 230) 28 (by rfl) (by rfl) (by rfl) hr ?_))
        all_goals
          clear hr t0 t1 t2 y0 y1 y2 y3 y4 y5
          go_wp2
          exact Hex.out _ _ _ _ _ _ _ _ _ _ _ _ _ _ _ _ _ _ _ _ _ _ _ _ _ _ _ _ _ _ _ _ _ _ _ _ _ _ _ _ _ _ _ _ _ _ _ _ _ _ _ _ _ _ _ _ _ _ _ _ _ _ _ _ _ _ _ _ _ _ _ _ _ _ _ _ _ _ _ _ _ _ _ _ _ _ _ _ _ _ _ _ _ _ _ _ _ _ _ (by rw [HMe.out]; exact HQ3.out)
end Go.Proofs.Ytfiielibnnodkaa
