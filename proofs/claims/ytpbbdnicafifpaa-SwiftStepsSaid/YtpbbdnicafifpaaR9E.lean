/-
  The document's own run: the firings at one time.
  Conditions: none beyond the theorem's own.
-/
import Derived.Test.YtpbbdnicafifpaaR9X
import Derived.Test.YtpbbdnicafifpaaRunJ
namespace Go.Proofs.Ytpbbdnicafifpaa
open Go.RowKit
set_option linter.unusedVariables false

noncomputable def firingsBody : Code := ((Try.f26.body.map loopsR).getD []).getD 4 .skip

set_option maxRecDepth 1000000 in
set_option maxHeartbeats 8000000 in
theorem firings_loop {w0 w1 : World} {R bn B4 fb : Nat} {n : Nt} {t : Int} {u0 : St} {np nt cp ct : Nat} {ap at_ : Option Addr} {aq : Option Addr} {nq cq : Nat} {c0 c1 c3 c5 c7 c11 c12 c13 c14 c16 c17 c18 c19 c20 c21 c22 c23 c24 c25 c26 c27 c28 c29 c30 c31 c32 c33 c34 c35 c36 c37 c38 c39 c40 c41 c42 c43 c44 c45 c46 c47 c48 c49 c50 c51 c52 c53 c54 c55 c56 c57 c58 c59 c60 c61 c62 c63 c64 c65 c66 c67 c68 c69 c70 c71 c72 c73 c74 c75 c76 c77 c78 c79 c80 c81 c82 c83 c84 c85 c86 c87 c88 c89 c90 c91 c92 c93 c94 c95 c96 c97 c98 c99 c100 c101 c102 c103 c104 c105 c106 c107 c108 c109 c110 c111 c112 c113 c114 c115 c116 c117 c118 c119 c120 c121 c122 c123 c124 c125 c126 c127 c128 c129 c130 c131 c132 c133 c134 c135 c136 c137 c138 c139 c140 c141 c142 c143 c144 c145 c146 c147 c148 c149 c150 c151 c152 c153 c154 c155 c156 c157 c158 c159 c160 c161 c162 c163 c164 c165 c166 c167 c168 c169 c170 c171 c172 c173 c174 c175 c176 c177 c178 c179 c180 c181 c182 c183 c184 c185 c186 c187 c188 c189 c190 c191 c192 c193 c194 c195 c196 c197 c198 c199 c200 c201 c202 c203 c204 c205 c206 c207 c208 c209 c210 c211 c212 c213 c214 c215 c216 c217 c218 c219 c220 c221 c222 c223 c224 c225 c226 c227 c228 c229 c230 c231 c232 c233 c234 c235 c236 c237 c238 c239 c240 c241 c242 c243 c244 c245 c246 c247 c248 c249 c250 c251 c252 c253 c254 c255 c256 c257 c258 c259 c260 c261 c262 c263 c264 c265 c266 c267 c268 c269 : Value} {Nx Mx : Act → World → Prop}
    (hn : NOk n) (hnp : np = n.places.length) (hnt : nt = n.trans.length) (hnet : NetAt w0 (.slice ap np cp) (.slice at_ nt ct) n) (hb0 : w0.cell? ⟨bn, 0, none⟩ = some (.slice ap np cp)) (hb1 : w0.cell? ⟨bn, 1, none⟩ = some (.slice at_ nt ct)) (hbl : bn < w0.heap.size) (hB4 : B4 < w0.heap.size) (hc4 : ∀ j, j < 4 → ∃ v, w0.cell? ⟨B4, j, none⟩ = some v) (hf4 : ∀ j, w0.frozen? ⟨B4, j, none⟩ = false) (hI : Inv n t u0) (hAf : After t u0) (hnq : nq = u0.q.length) (hR : RefAt w0 w1 R t u0.log u0.m (wayL np u0.q) [evRow (.slice aq nq cq) u0.q, intRow (.slice (some ⟨fb, 0, none⟩) nt nt) (List.replicate nt 0)])
    (hexit : ∀ (u : St) (a : Option Addr) (nr c : Nat) (cs : List Int) (u5 u16 u17 u18 u19 u20 u112 u113 u114 u115 u116 u117 u118 u119 u120 u121 u122 u123 u124 u125 u126 u127 u128 u129 u130 u131 u132 u133 u134 u135 u136 u137 u138 u139 u140 u141 u142 u143 u144 u145 u146 u147 u148 u149 u150 u151 u152 u153 u154 u155 u156 u157 u158 u159 u160 u161 u162 u163 u164 u165 u166 u167 u168 u169 u170 u171 u172 u173 u174 u175 u176 u177 u178 u179 u180 u181 u182 u183 u184 u185 u186 u187 u188 u189 u190 u191 u192 u193 u194 u195 u196 u197 u198 u199 u200 u201 u202 u203 u204 u205 u206 u207 u208 u209 u210 u211 u212 u213 u214 u215 u216 u217 u218 u219 u220 u221 u222 u223 u224 u225 u226 u227 u228 u229 u230 u231 u232 u233 u234 u235 u236 u237 u238 u239 u240 u241 u242 u243 : Value) (W' : World), RefAt w0 W' R t u.log u.m (wayL np u.q) [evRow (.slice a nr c) u.q, intRow (.slice (some ⟨fb, 0, none⟩) nt nt) cs] → nr = u.q.length → inst n.trans t 2001 (List.replicate nt 0) u0 = (u, 0) → Nx ⟨(c0 :: c1 :: (.pointer (some ⟨bn, 0, none⟩)) :: c3 :: (.pointer (some ⟨B4, 0, none⟩)) :: u5 :: (.pointer (some ⟨R, 0, none⟩)) :: c7 :: (.slice a nr c) :: (.int .i64 t) :: (.bool false) :: c11 :: c12 :: c13 :: c14 :: (.slice (some ⟨fb, 0, none⟩) nt nt) :: u16 :: u17 :: u18 :: u19 :: u20 :: c21 :: c22 :: c23 :: c24 :: c25 :: c26 :: c27 :: c28 :: c29 :: c30 :: c31 :: c32 :: c33 :: c34 :: c35 :: c36 :: c37 :: c38 :: c39 :: c40 :: c41 :: c42 :: c43 :: c44 :: c45 :: c46 :: c47 :: c48 :: c49 :: c50 :: c51 :: c52 :: c53 :: c54 :: c55 :: c56 :: c57 :: c58 :: c59 :: c60 :: c61 :: c62 :: c63 :: c64 :: c65 :: c66 :: c67 :: c68 :: c69 :: c70 :: c71 :: c72 :: c73 :: c74 :: c75 :: c76 :: c77 :: c78 :: c79 :: c80 :: c81 :: c82 :: c83 :: c84 :: c85 :: c86 :: c87 :: c88 :: c89 :: c90 :: c91 :: c92 :: c93 :: c94 :: c95 :: c96 :: c97 :: c98 :: c99 :: c100 :: c101 :: c102 :: c103 :: c104 :: c105 :: c106 :: c107 :: c108 :: c109 :: c110 :: c111 :: u112 :: u113 :: u114 :: u115 :: u116 :: u117 :: u118 :: u119 :: u120 :: u121 :: u122 :: u123 :: u124 :: u125 :: u126 :: u127 :: u128 :: u129 :: u130 :: u131 :: u132 :: u133 :: u134 :: u135 :: u136 :: u137 :: u138 :: u139 :: u140 :: u141 :: u142 :: u143 :: u144 :: u145 :: u146 :: u147 :: u148 :: u149 :: u150 :: u151 :: u152 :: u153 :: u154 :: u155 :: u156 :: u157 :: u158 :: u159 :: u160 :: u161 :: u162 :: u163 :: u164 :: u165 :: u166 :: u167 :: u168 :: u169 :: u170 :: u171 :: u172 :: u173 :: u174 :: u175 :: u176 :: u177 :: u178 :: u179 :: u180 :: u181 :: u182 :: u183 :: u184 :: u185 :: u186 :: u187 :: u188 :: u189 :: u190 :: u191 :: u192 :: u193 :: u194 :: u195 :: u196 :: u197 :: u198 :: u199 :: u200 :: u201 :: u202 :: u203 :: u204 :: u205 :: u206 :: u207 :: u208 :: u209 :: u210 :: u211 :: u212 :: u213 :: u214 :: u215 :: u216 :: u217 :: u218 :: u219 :: u220 :: u221 :: u222 :: u223 :: u224 :: u225 :: u226 :: u227 :: u228 :: u229 :: u230 :: u231 :: u232 :: u233 :: u234 :: u235 :: u236 :: u237 :: u238 :: u239 :: u240 :: u241 :: u242 :: u243 :: c244 :: c245 :: c246 :: c247 :: c248 :: c249 :: c250 :: c251 :: c252 :: c253 :: c254 :: c255 :: c256 :: c257 :: c258 :: c259 :: c260 :: c261 :: c262 :: c263 :: c264 :: c265 :: c266 :: c267 :: c268 :: c269 :: []).toArray, []⟩ W')
    (hret : ∀ (err : Int) (u : St) (al : Option Addr) (ll cl : Nat) (am : Option Addr) (cm : Nat) (aw : Option Addr) (cw : Nat) (u8 u10 u16 u17 u18 u19 u20 u112 u113 u114 u115 u116 u117 u118 u119 u120 u121 u122 u123 u124 u125 u126 u127 u128 u129 u130 u131 u132 u133 u134 u135 u136 u137 u138 u139 u140 u141 u142 u143 u144 u145 u146 u147 u148 u149 u150 u151 u152 u153 u154 u155 u156 u157 u158 u159 u160 u161 u162 u163 u164 u165 u166 u167 u168 u169 u170 u171 u172 u173 u174 u175 u176 u177 u178 u179 u180 u181 u182 u183 u184 u185 u186 u187 u188 u189 u190 u191 u192 u193 u194 u195 u196 u197 u198 u199 u200 u201 u202 u203 u204 u205 u206 u207 u208 u209 u210 u211 u212 u213 u214 u215 u216 u217 u218 u219 u220 u221 u222 u223 u224 u225 u226 u227 u228 u229 u230 u231 u232 u233 u234 u235 u236 u237 u238 u239 u240 u241 u242 u243 : Value) (W' : World), OwnF w0.heap.size W' (.slice al ll cl) u.log → OwnI w0.heap.size W' (.slice am np cm) u.m → OwnI w0.heap.size W' (.slice aw np cw) (wayL np u.q) → Below w0.heap.size w0 W' → ll = u.log.length → err ≠ 0 → inst n.trans t 2001 (List.replicate nt 0) u0 = (u, err) → Mx ⟨(c0 :: c1 :: (.pointer (some ⟨bn, 0, none⟩)) :: c3 :: (.pointer (some ⟨B4, 0, none⟩)) :: (.int .i64 err) :: (.pointer (some ⟨R, 0, none⟩)) :: c7 :: u8 :: (.int .i64 t) :: u10 :: c11 :: c12 :: c13 :: c14 :: (.slice (some ⟨fb, 0, none⟩) nt nt) :: u16 :: u17 :: u18 :: u19 :: u20 :: c21 :: c22 :: c23 :: c24 :: c25 :: c26 :: c27 :: c28 :: c29 :: c30 :: c31 :: c32 :: c33 :: c34 :: c35 :: c36 :: c37 :: c38 :: c39 :: c40 :: c41 :: c42 :: c43 :: c44 :: c45 :: c46 :: c47 :: c48 :: c49 :: c50 :: c51 :: c52 :: c53 :: c54 :: c55 :: c56 :: c57 :: c58 :: c59 :: c60 :: c61 :: c62 :: c63 :: c64 :: c65 :: c66 :: c67 :: c68 :: c69 :: c70 :: c71 :: c72 :: c73 :: c74 :: c75 :: c76 :: c77 :: c78 :: c79 :: c80 :: c81 :: c82 :: c83 :: c84 :: c85 :: c86 :: c87 :: c88 :: c89 :: c90 :: c91 :: c92 :: c93 :: c94 :: c95 :: c96 :: c97 :: c98 :: c99 :: c100 :: c101 :: c102 :: c103 :: c104 :: c105 :: c106 :: c107 :: c108 :: c109 :: c110 :: c111 :: u112 :: u113 :: u114 :: u115 :: u116 :: u117 :: u118 :: u119 :: u120 :: u121 :: u122 :: u123 :: u124 :: u125 :: u126 :: u127 :: u128 :: u129 :: u130 :: u131 :: u132 :: u133 :: u134 :: u135 :: u136 :: u137 :: u138 :: u139 :: u140 :: u141 :: u142 :: u143 :: u144 :: u145 :: u146 :: u147 :: u148 :: u149 :: u150 :: u151 :: u152 :: u153 :: u154 :: u155 :: u156 :: u157 :: u158 :: u159 :: u160 :: u161 :: u162 :: u163 :: u164 :: u165 :: u166 :: u167 :: u168 :: u169 :: u170 :: u171 :: u172 :: u173 :: u174 :: u175 :: u176 :: u177 :: u178 :: u179 :: u180 :: u181 :: u182 :: u183 :: u184 :: u185 :: u186 :: u187 :: u188 :: u189 :: u190 :: u191 :: u192 :: u193 :: u194 :: u195 :: u196 :: u197 :: u198 :: u199 :: u200 :: u201 :: u202 :: u203 :: u204 :: u205 :: u206 :: u207 :: u208 :: u209 :: u210 :: u211 :: u212 :: u213 :: u214 :: u215 :: u216 :: u217 :: u218 :: u219 :: u220 :: u221 :: u222 :: u223 :: u224 :: u225 :: u226 :: u227 :: u228 :: u229 :: u230 :: u231 :: u232 :: u233 :: u234 :: u235 :: u236 :: u237 :: u238 :: u239 :: u240 :: u241 :: u242 :: u243 :: c244 :: c245 :: c246 :: c247 :: c248 :: c249 :: c250 :: c251 :: c252 :: c253 :: c254 :: c255 :: c256 :: c257 :: c258 :: c259 :: c260 :: c261 :: c262 :: c263 :: c264 :: c265 :: c266 :: c267 :: c268 :: c269 :: []).toArray, []⟩ ((((W'.setCell ⟨B4, 0, none⟩ (.slice al ll cl)).setCell ⟨B4, 1, none⟩ (.slice am np cm)).setCell ⟨B4, 2, none⟩ (.slice aw np cw)).setCell ⟨B4, 3, none⟩ (.int .i64 t)))
    : Code.wp Try.prog (Code.loop firingsBody) (outPost 8 Nx Mx) ⟨(c0 :: c1 :: (.pointer (some ⟨bn, 0, none⟩)) :: c3 :: (.pointer (some ⟨B4, 0, none⟩)) :: c5 :: (.pointer (some ⟨R, 0, none⟩)) :: c7 :: (.slice aq nq cq) :: (.int .i64 t) :: (.bool false) :: c11 :: c12 :: c13 :: c14 :: (.slice (some ⟨fb, 0, none⟩) nt nt) :: c16 :: c17 :: c18 :: c19 :: c20 :: c21 :: c22 :: c23 :: c24 :: c25 :: c26 :: c27 :: c28 :: c29 :: c30 :: c31 :: c32 :: c33 :: c34 :: c35 :: c36 :: c37 :: c38 :: c39 :: c40 :: c41 :: c42 :: c43 :: c44 :: c45 :: c46 :: c47 :: c48 :: c49 :: c50 :: c51 :: c52 :: c53 :: c54 :: c55 :: c56 :: c57 :: c58 :: c59 :: c60 :: c61 :: c62 :: c63 :: c64 :: c65 :: c66 :: c67 :: c68 :: c69 :: c70 :: c71 :: c72 :: c73 :: c74 :: c75 :: c76 :: c77 :: c78 :: c79 :: c80 :: c81 :: c82 :: c83 :: c84 :: c85 :: c86 :: c87 :: c88 :: c89 :: c90 :: c91 :: c92 :: c93 :: c94 :: c95 :: c96 :: c97 :: c98 :: c99 :: c100 :: c101 :: c102 :: c103 :: c104 :: c105 :: c106 :: c107 :: c108 :: c109 :: c110 :: c111 :: c112 :: c113 :: c114 :: c115 :: c116 :: c117 :: c118 :: c119 :: c120 :: c121 :: c122 :: c123 :: c124 :: c125 :: c126 :: c127 :: c128 :: c129 :: c130 :: c131 :: c132 :: c133 :: c134 :: c135 :: c136 :: c137 :: c138 :: c139 :: c140 :: c141 :: c142 :: c143 :: c144 :: c145 :: c146 :: c147 :: c148 :: c149 :: c150 :: c151 :: c152 :: c153 :: c154 :: c155 :: c156 :: c157 :: c158 :: c159 :: c160 :: c161 :: c162 :: c163 :: c164 :: c165 :: c166 :: c167 :: c168 :: c169 :: c170 :: c171 :: c172 :: c173 :: c174 :: c175 :: c176 :: c177 :: c178 :: c179 :: c180 :: c181 :: c182 :: c183 :: c184 :: c185 :: c186 :: c187 :: c188 :: c189 :: c190 :: c191 :: c192 :: c193 :: c194 :: c195 :: c196 :: c197 :: c198 :: c199 :: c200 :: c201 :: c202 :: c203 :: c204 :: c205 :: c206 :: c207 :: c208 :: c209 :: c210 :: c211 :: c212 :: c213 :: c214 :: c215 :: c216 :: c217 :: c218 :: c219 :: c220 :: c221 :: c222 :: c223 :: c224 :: c225 :: c226 :: c227 :: c228 :: c229 :: c230 :: c231 :: c232 :: c233 :: c234 :: c235 :: c236 :: c237 :: c238 :: c239 :: c240 :: c241 :: c242 :: c243 :: c244 :: c245 :: c246 :: c247 :: c248 :: c249 :: c250 :: c251 :: c252 :: c253 :: c254 :: c255 :: c256 :: c257 :: c258 :: c259 :: c260 :: c261 :: c262 :: c263 :: c264 :: c265 :: c266 :: c267 :: c268 :: c269 :: []).toArray, []⟩ w1 := by
  conv => arg 2; arg 1; whnf
  have HN := Lib.hid hn
  have Hnp := Lib.hid hnp
  have Hnt := Lib.hid hnt
  have Hnet := Lib.hid hnet
  have Hb0 := Lib.hid hb0
  have Hb1 := Lib.hid hb1
  have Hc4 := Lib.hid hc4
  have Hf4 := Lib.hid hf4
  have HI0 := Lib.hid hI
  have Hnq := Lib.hid hnq
  have HAf0 := Lib.hid hAf
  have HR0 := Lib.hid hR
  have Hex := Lib.hid hexit
  have Hret := Lib.hid hret
  obtain ⟨A, hA⟩ : ∃ A, A = inst n.trans t 2001 (List.replicate nt 0) u0 := ⟨_, rfl⟩
  have HA := Lib.hid hA
  rw [← hA] at Hex Hret
  clear hA hn hnp hnt hnet hb0 hb1 hc4 hf4 hI hAf hnq hR hexit hret
  go_loopg [8, 10] 2001 (fun k q o wr => ∃ (cs : List Int) (u : St) (a : Option Addr) (nr c : Nat), q = .slice a nr c ∧ o = .bool false ∧ RefAt w0 wr R t u.log u.m (wayL np u.q) [evRow (.slice a nr c) u.q, intRow (.slice (some ⟨fb, 0, none⟩) nt nt) cs] ∧ Hid (nr = u.q.length) ∧ cs.length = nt ∧ (∀ z ∈ cs, 0 ≤ z ∧ z ≤ 20) ∧ Inv n t u ∧ After t u ∧ 2001 ≤ k + u.log.length ∧ Hid (A = inst n.trans t k cs u))
  case atStart => exact ⟨List.replicate nt 0, u0, aq, nq, cq, rfl, rfl, HR0.out, Hnq, by simp, fun z hz => by rw [List.eq_of_mem_replicate hz]; omega, HI0.out, HAf0.out, by omega, HA⟩
  case round =>
    obtain ⟨cs, u, a, nr, c, rfl, rfl, hR, Hnr, hcl, hc0, hI, hAf, hk, HK⟩ := hrel
    rename World => v1
    have hll := hI.ll
    obtain ⟨k, rfl⟩ : ∃ k, gk = k + 1 := ⟨gk - 1, by omega⟩
    have hlen : u.m.length = np := by rw [hI.len, Hnp.out]
    obtain ⟨am, cm, k1, hM, -⟩ := hR.toks
    rw [hlen] at k1
    have n0 := (below_cells hR.low bn 0 hbl).trans Hb0.out
    have n1 := (below_cells hR.low bn 1 hbl).trans Hb1.out
    have hRl := hR.lt.2
    have hbl1 : bn < v1.heap.size := Nat.lt_of_lt_of_le hbl hR.low.size
    obtain ⟨bst, hbst⟩ : ∃ q, q = bestTo u.m n.trans nt := ⟨_, rfl⟩
    have HB := Lib.hid (rbest9 (w := v1) (ap := ap) (at_ := at_) (cp := cp) (ct := ct) (np := np) (am := am) (nm := np) (cm := cm) Hnt.out hlen.symm (Hnet.out.below hR.low) (by have := OwnI.at_ hM; rw [hlen] at this; exact this) (HN.out.fits hI.len) bst hbst)
    have HR := Lib.hid hR
    have HI := Lib.hid hI
    have Haf := Lib.hid hAf
    have Hcl := Lib.hid hcl
    have Hc0 := Lib.hid hc0
    have Hbst := Lib.hid hbst
    have Hlen := Lib.hid hlen
    clear hR hI hAf hcl hll hc0 hM hbst hlen HR0 HA HI0 HAf0
    go_wp2_with fail
    refine HB.out.mono ?_
    rintro e v2 ⟨rfl, hb2⟩
    have hR2 := HR.out.go hb2
    have HR2 := Lib.hid hR2
    clear k1 n0 n1 hRl hbl1 HB HR
    by_cases hneg : bst < 0
    · have HE : Hid (A = (u, 0)) := Lib.hid (by rw [HK.out]; exact inst_stop (by rw [← Hnt.out, ← Hbst.out]; exact hneg))
      clear hR2 hb2
      go_wp2
      exact And.intro rfl (Hex.out u a nr c cs _ _ _ _ _ _ _ _ _ _ _ _ _ _ _ _ _ _ _ _ _ _ _ _ _ _ _ _ _ _ _ _ _ _ _ _ _ _ _ _ _ _ _ _ _ _ _ _ _ _ _ _ _ _ _ _ _ _ _ _ _ _ _ _ _ _ _ _ _ _ _ _ _ _ _ _ _ _ _ _ _ _ _ _ _ _ _ _ _ _ _ _ _ _ _ _ _ _ _ _ _ _ _ _ _ _ _ _ _ _ _ _ _ _ _ _ _ _ _ _ _ _ _ _ _ _ _ _ _ _ _ _ _ _ _ _ _ _ _ HR2.out Hnr.out HE.out)
    · have hnegb : decide (bst < 0) = false := decide_eq_false hneg
      obtain ⟨bn', rfl⟩ : ∃ q : Nat, bst = q := ⟨bst.toNat, by omega⟩
      obtain ⟨x, hx, hm⟩ := bestTo_may u.m n.trans nt (by rw [← Hbst.out]; omega)
      rw [← Hbst.out, Int.toNat_natCast] at hx
      have hbt : bn' < nt := by rw [Hnt.out]; exact lt_at hx
      have hbi : (bn' : Int) < (nt : Int) := by omega
      have Hx := Lib.hid hx
      have Hm := Lib.hid hm
      have Hb : Hid (bestTo u.m n.trans n.trans.length = (bn' : Int)) := Lib.hid (by rw [← Hnt.out, ← Hbst.out])
      have n1 := (below_cells hR2.low bn 1 hbl).trans Hb1.out
      have hbl1 : bn < v2.heap.size := Nat.lt_of_lt_of_le hbl hR2.low.size
      obtain ⟨_, l, hl, htr⟩ := Hnet.out
      obtain ⟨g, off, a1, c1, a2, c2, a3, c3, rfl, hgw0, z0, z1, z2, z3, z4, z5, hA1, _, hA3⟩ := htr.at_ (i := bn') (t := x) (by rw [hl]; exact hx)
      have e0 := (below_cells hR2.low g _ hgw0).trans z0
      have e1 := (below_cells hR2.low g _ hgw0).trans z1
      have e2 := (below_cells hR2.low g _ hgw0).trans z2
      have e3 := (below_cells hR2.low g _ hgw0).trans z3
      have e4 := (below_cells hR2.low g _ hgw0).trans z4
      have e5 := (below_cells hR2.low g _ hgw0).trans z5
      have hgw : g < v2.heap.size := Nat.lt_of_lt_of_le hgw0 hR2.low.size
      clear z0 z1 z2 z3 z4 z5
      have hmemx := HN.out.at_ hx
      have hdl := HN.out.dly x hmemx
      obtain ⟨ni, hni⟩ : ∃ k, k = x.inn.length := ⟨_, rfl⟩
      obtain ⟨nn, hnn⟩ : ∃ k, k = x.nt.length := ⟨_, rfl⟩
      obtain ⟨no, hno⟩ : ∃ k, k = x.out.length := ⟨_, rfl⟩
      rw [← hni] at e3
      rw [← hnn] at e4
      rw [← hno] at e5
      have HAi : Hid (ArcsAt w0 (.slice a1 ni c1) x.inn) := Lib.hid (by rw [hni]; exact hA1)
      have HAo : Hid (ArcsAt w0 (.slice a3 no c3) x.out) := Lib.hid (by rw [hno]; exact hA3)
      have hbox := hR2.add ((Below.refl _ _).alloc (Nat.le_refl _) (.cells #[.string x.name, .int .i64 x.delay, .int .i64 x.prio, .slice a1 ni c1, .slice a2 nn c2, .slice a3 no c3] 79)) (boxRow.new _ v2 79 #[.string x.name, .int .i64 x.delay, .int .i64 x.prio, .slice a1 ni c1, .slice a2 nn c2, .slice a3 no c3] hR2.low.size) (fun k e => by injection e with e; subst e; exact Nat.le_refl _)
      have Hbox := Lib.hid hbox
      have HbB := Lib.hid (hR2.go ((Below.refl _ _).alloc (Nat.le_refl _) (.cells #[.string x.name, .int .i64 x.delay, .int .i64 x.prio, .slice a1 ni c1, .slice a2 nn c2, .slice a3 no c3] 79))).low
      obtain ⟨bx, hbx⟩ : ∃ q, q = v2.heap.size := ⟨_, rfl⟩
      have Hbx := Lib.hid hbx
      have Hni := Lib.hid hni
      have Hno := Lib.hid hno
      rw [← hbx] at Hbox
      have hbx0 : w0.heap.size ≤ bx := by rw [hbx]; exact hR2.low.size
      clear hx hm hl htr hA1 hA3 hR2 hb2 hbox hni hnn hno
      go_upto_region 32 with (fail)
      rw [← Hbx.out]
      clear hbx Hbx n1 hbl1 e0 e1 e2 e3 e4 e5 hgw HR2 HbB
      revert Hbox
      generalize (v2.alloc (.cells #[.string x.name, .int .i64 x.delay, .int .i64 x.prio, .slice a1 ni c1, .slice a2 nn c2, .slice a3 no c3] 79)) = V
      intro Hbox
      have hV := Hbox.out
      obtain ⟨cb, hcb⟩ := at_lt (l := cs) (k := bn') (by rw [Hcl.out]; exact hbt)
      have hcb0 := Hc0.out cb (List.mem_of_getElem? hcb)
      have hget : getI cs bn' = cb := getI_at hcb
      have hT : OwnI w0.heap.size V (.slice (some ⟨fb, 0, none⟩) nt nt) cs := hV.mem (r := intRow (.slice (some ⟨fb, 0, none⟩) nt nt) cs) (by simp)
      have t0 := hT.cell hcb
      have tf := hT.froz bn'
      have tl := hT.lt.2
      obtain ⟨al, cl, kl, hF⟩ := hV.logs
      obtain ⟨am, cm, km, hM, -⟩ := hV.toks
      obtain ⟨aw, cw, kw, hW, -⟩ := hV.ways
      have kt := hV.tcell
      have hRl := hV.lt.2
      have hB := hV.mem (r := boxRow bx 79 [.string x.name, .int .i64 x.delay, .int .i64 x.prio, .slice a1 ni c1, .slice a2 nn c2, .slice a3 no c3]) (by simp)
      have x1 := boxRow.cell hB (j := 1) rfl
      have x3 := boxRow.cell hB (j := 3) rfl
      have x5 := boxRow.cell hB (j := 5) rfl
      have xl := (boxRow.lt hB).2
      obtain ⟨ll, hll⟩ : ∃ k, k = u.log.length := ⟨_, rfl⟩
      rw [← hll] at kl hF
      rw [Hlen.out] at km hM
      rw [wayL_size] at kw hW
      have Hll := Lib.hid hll
      have HF := Lib.hid hF
      have HM := Lib.hid hM
      have HW := Lib.hid hW
      have hll2 : ll ≤ 2000 := by have := HI.out.ll; omega
      obtain ⟨v40, h40⟩ := Hc4.out 0 (by omega)
      obtain ⟨v41, h41⟩ := Hc4.out 1 (by omega)
      obtain ⟨v42, h42⟩ := Hc4.out 2 (by omega)
      obtain ⟨v43, h43⟩ := Hc4.out 3 (by omega)
      have r0 := (below_cells hV.low B4 0 hB4).trans h40
      have r1 := (below_cells hV.low B4 1 hB4).trans h41
      have r2 := (below_cells hV.low B4 2 hB4).trans h42
      have r3 := (below_cells hV.low B4 3 hB4).trans h43
      have q0 := (Kept.of_below (S := fun _ => False) hV.low).froz hB4 (fun e => e) (Hf4.out 0)
      have q1 := (Kept.of_below (S := fun _ => False) hV.low).froz hB4 (fun e => e) (Hf4.out 1)
      have q2 := (Kept.of_below (S := fun _ => False) hV.low).froz hB4 (fun e => e) (Hf4.out 2)
      have q3 := (Kept.of_below (S := fun _ => False) hV.low).froz hB4 (fun e => e) (Hf4.out 3)
      have hB4V : B4 < V.heap.size := Nat.lt_of_lt_of_le hB4 hV.low.size
      have Hlow := Lib.hid hV.low
      have Hcb := Lib.hid hcb
      have Hget := Lib.hid hget
      clear h40 h41 h42 h43 hV hT hF hM hW hB hll hcb hget
      by_cases g1 : cb = 20
      · have g1b : (cb == 20) = true := by simp [g1]
        have HE : Hid (A = (u, 4)) := Lib.hid (by
          rw [HK.out]
          have hr : refuseN u (getI cs bn') = 4 := by unfold refuseN; rw [Hget.out, if_pos (by omega)]
          have := inst_ref (ts := n.trans) (t := t) (k := k) (c := cs) Hb.out (by rw [hr]; omega)
          rw [hr] at this; exact this)
        clear g1
        go_wp2
        exact Hret.out 4 u al ll cl am cm aw cw _ _ _ _ _ _ _ _ _ _ _ _ _ _ _ _ _ _ _ _ _ _ _ _ _ _ _ _ _ _ _ _ _ _ _ _ _ _ _ _ _ _ _ _ _ _ _ _ _ _ _ _ _ _ _ _ _ _ _ _ _ _ _ _ _ _ _ _ _ _ _ _ _ _ _ _ _ _ _ _ _ _ _ _ _ _ _ _ _ _ _ _ _ _ _ _ _ _ _ _ _ _ _ _ _ _ _ _ _ _ _ _ _ _ _ _ _ _ _ _ _ _ _ _ _ _ _ _ _ _ _ _ _ _ _ _ _ _ _ _ HF.out HM.out HW.out Hlow.out Hll.out (by omega) HE.out
      · have g1b : (cb == 20) = false := by simpa using g1
        by_cases g2 : ll = 2000
        · have g2b : ((ll : Int) == 2000) = true := by simp [g2]
          have HE : Hid (A = (u, 5)) := Lib.hid (by
            rw [HK.out]
            have hr : refuseN u (getI cs bn') = 5 := by unfold refuseN; rw [Hget.out, if_neg (by omega), if_pos (by have := Hll.out; omega)]
            have := inst_ref (ts := n.trans) (t := t) (k := k) (c := cs) Hb.out (by rw [hr]; omega)
            rw [hr] at this; exact this)
          clear g1 g2
          go_wp2
          exact Hret.out 5 u al ll cl am cm aw cw _ _ _ _ _ _ _ _ _ _ _ _ _ _ _ _ _ _ _ _ _ _ _ _ _ _ _ _ _ _ _ _ _ _ _ _ _ _ _ _ _ _ _ _ _ _ _ _ _ _ _ _ _ _ _ _ _ _ _ _ _ _ _ _ _ _ _ _ _ _ _ _ _ _ _ _ _ _ _ _ _ _ _ _ _ _ _ _ _ _ _ _ _ _ _ _ _ _ _ _ _ _ _ _ _ _ _ _ _ _ _ _ _ _ _ _ _ _ _ _ _ _ _ _ _ _ _ _ _ _ _ _ _ _ _ _ _ _ _ _ HF.out HM.out HW.out Hlow.out Hll.out (by omega) HE.out
        · have g2b : ((ll : Int) == 2000) = false := by simpa using fun e => g2 (by omega)
          have hr0 : refuseN u (getI cs bn') = 0 := by unfold refuseN; rw [Hget.out, if_neg (by omega), if_neg (by have := Hll.out; omega)]
          obtain ⟨hgo, hc20, hl2⟩ := inst_go (t := t) (k := k) (c := cs) Hb.out Hx.out hr0
          have Hgo := Lib.hid (HK.out.trans hgo)
          have Hl2 := Lib.hid hl2
          have hc20b : cb < 20 := by have := Hget.out; omega
          clear hgo hc20 hl2 hr0 r0 r1 r2 r3 q0 q1 q2 q3 hB4V HK HF HM HW g1 g2
          have htb := HI.out.tb
          rw [← Hll.out] at htb
          have hlim : ¬ (1099511627776 : Int) < t + x.delay := by omega
          have hlimb : decide ((1099511627776 : Int) < t + x.delay) = false := decide_eq_false hlim
          have hwr : IntKind.i64.wrap (t + x.delay) = t + x.delay := IntWalk.i64_in _ (by omega)
          have hb1' : -9223372036854775808 ≤ t + x.delay := by omega
          have hb2' : t + x.delay ≤ 9223372036854775807 := by omega
          go_upto_region 36 with (fail)
          go_cut [144] from 134 to 144 (fun s wc => s = .bool false ∧ V = wc)
          case first =>
            by_cases g3 : 0 < no
            · have g3i : (0 : Int) < (no : Int) := by omega
              go_wp2
              go_meet
              case rel => exact ⟨rfl, rfl⟩
            · have g3b : decide ((0 : Int) < (no : Int)) = false := decide_eq_false (by omega)
              obtain rfl : no = 0 := by omega
              go_wp2
              go_meet
              case rel => exact ⟨rfl, rfl⟩
          case rest =>
            obtain ⟨rfl, rfl⟩ := hcut
            clear hlim hlimb hwr hb1' hb2' htb x1 x3 x5 kl km kw kt
            have hcbw : wrap64 (cb + 1) = cb + 1 := IntWalk.wrap64_in _ (by omega)
            have hV := Hbox.out
            have hT : OwnI w0.heap.size V (.slice (some ⟨fb, 0, none⟩) nt nt) cs := hV.mem (r := intRow (.slice (some ⟨fb, 0, none⟩) nt nt) cs) (by simp)
            have hst := hT.set bn' (wrap64 (cb + 1)) (by rw [Hcl.out]; exact hbt)
            have h2 := RefAt.swap (pre := [evRow (.slice a nr c) u.q]) (r := intRow (.slice (some ⟨fb, 0, none⟩) nt nt) cs) (r' := intRow (.slice (some ⟨fb, 0, none⟩) nt nt) (cs.set bn' (wrap64 (cb + 1)))) (post := [boxRow bx 79 [.string x.name, .int .i64 x.delay, .int .i64 x.prio, .slice a1 ni c1, .slice a2 nn c2, .slice a3 no c3]]) hV (hst.2.mono (fun j _ e => by subst e; rfl)) hst.1 (.inl rfl)
            rw [hcbw] at h2
            have H2 := Lib.hid h2
            have hwc : IntKind.i64.wrap (cb + 1) = cb + 1 := IntWalk.i64_in _ (by omega)
            have hc1' : -9223372036854775808 ≤ cb + 1 := by omega
            have hc2' : cb + 1 ≤ 9223372036854775807 := by omega
            clear hV hT hst h2 Hbox hcbw
            go_upto_region 39 with (fail)
            clear t0 tf tl hRl xl
            revert H2
            generalize (V.setCell ⟨fb, bn', none⟩ (.int .i64 (cb + 1))) = V2
            intro H2
            obtain ⟨al2, cl2, kl2, -⟩ := H2.out.logs
            obtain ⟨a4, n4, c4, w4, hrun, h3, kl4, kf4, kR4⟩ := H2.out.pushF (by rw [← Hll.out]; omega) 49 t (bn' : Int) kl2
            have hR2 := H2.out.lt.2
            rw [← Hll.out] at kl2 hrun kl4
            have H3 := Lib.hid h3
            clear h3 H2
            go_wp2_with (at_builtin; refine wpList_append_eq rfl (.tmp 153) (.tmp 157) 49 rfl rfl rfl hrun ?_)
            clear hrun kl2 kl4 kf4 kR4 hR2
            have hfitI : Fits u.m.length x.inn := (HN.out.fits HI.out.len x (HN.out.at_ Hx.out)).1
            have hwy : 0 < u.m.length → 0 < (wayL np u.q).length := fun h => by rw [wayL_size]; have := Hlen.out; omega
            refine loop_of 10 (takes_loop (li := x.inn) Hni.out HAi.out hfitI hwy (more := [evRow (.slice a nr c) u.q] ++ intRow (.slice (some ⟨fb, 0, none⟩) nt nt) (cs.set bn' (cb + 1)) :: [boxRow bx 79 [.string x.name, .int .i64 x.delay, .int .i64 x.prio, .slice a1 ni c1, .slice a2 nn c2, .slice a3 no c3]]) (v0 := .string x.name) (v1 := .int .i64 x.delay) (v2 := .int .i64 x.prio) (v4 := .slice a2 nn c2) (v5 := .slice a3 no c3) (by simp) H3.out ?_)
            intro q18 q160 q161 q162 q163 q164 q165 q166 q167 q168 q169 q170 q171 q172 q173 q174 q175 q176 q177 q178 q179 q180 q181 q182 q183 q184
            intro W5 hr5
            have H5 := Lib.hid hr5
            clear hr5 H3 hfitI hwy
            go_wp2
            have hwy2 : 0 < u.m.length → 0 < (wayL np u.q).length := fun h => by rw [wayL_size]; have := Hlen.out; omega
            have hxm := HN.out.at_ Hx.out
            obtain ⟨i1, i2⟩ := arrive_inv (fired_inv HN.out HI.out (i := bn') Hx.out Hm.out Hl2.out)
            have hcs2 : (cs.set bn' (cb + 1)).length = nt := by rw [List.length_set]; exact Hcl.out
            have hcs3 : ∀ z ∈ cs.set bn' (cb + 1), 0 ≤ z ∧ z ≤ 20 := fun z hz => by
              rcases List.mem_or_eq_of_mem_set hz with h1 | h1
              · exact Hc0.out z h1
              · omega
            by_cases hd : x.delay = 0
            · have hf := fire_now (i := bn') (x := x) Haf.out hd
              have Hf := Lib.hid hf
              have hlk := H5.out
              refine loop_of 12 (outs0_loop (n := n) (x := x) (s := u) Hno.out HN.out HI.out hxm HAo.out Hm.out hd hwy2 (more := [evRow (.slice a nr c) u.q] ++ intRow (.slice (some ⟨fb, 0, none⟩) nt nt) (cs.set bn' (cb + 1)) :: [boxRow bx 79 [.string x.name, .int .i64 x.delay, .int .i64 x.prio, .slice a1 ni c1, .slice a2 nn c2, .slice a3 no c3]]) (v0 := .string x.name) (v2 := .int .i64 x.prio) (v3 := .slice a1 ni c1) (v4 := .slice a2 nn c2) (by simp) hlk ?_)
              intro r19 r20 r185 r186 r187 r188 r189 r190 r191 r192 r193 r194 r195 r196 r197 r198 r199 r200 r201 r202 r203 r204 r205 r206 r207 r208 r209 r210 r211 r212 r213 r214 r215 r216 r217 r218 r219 r220 r221 r222 r223 r224 r225 r226 r227 r228 r229 r230 r231 r232 r233 r234 r235 r236 r237 r238 r239 r240 r241
              intro W6 hr6
              have h6 := hr6.sub (more' := [evRow (.slice a nr c) u.q, intRow (.slice (some ⟨fb, 0, none⟩) nt nt) (cs.set bn' (cb + 1))]) (by simp)
              have H6 := Lib.hid h6
              clear hr6 h6 hlk
              go_wp2
              go_roundg k
              case measure => omega
              case rel =>
                refine ⟨cs.set bn' (cb + 1), fire t bn' x u, a, nr, c, rfl, rfl, ?_, ?_, hcs2, hcs3, i1, i2, by rw [fire_log, List.length_append, List.length_singleton]; omega, ?_⟩
                · rw [Hf.out]; exact H6.out
                · rw [Hf.out]; exact Hnr
                · exact Lib.hid (by have := Hgo.out; rw [Hget.out] at this; exact this)
            · have hd1 : 0 < x.delay := by omega
              have hf := fire_later (i := bn') (x := x) Haf.out hd1
              have Hf := Lib.hid hf
              have hml : (takeL x.inn u.m).length = u.m.length := by rw [← takeTo_all (Nat.le_refl _), takeTo_len]
              have hlk := H5.out
              rw [← Hlen.out] at hlk
              refine loop_of 12 (outs1_loop (n := n) (x := x) (s := u) Hno.out HN.out HI.out hxm HAo.out hd1 hml Hnr.out (more := intRow (.slice (some ⟨fb, 0, none⟩) nt nt) (cs.set bn' (cb + 1)) :: [boxRow bx 79 [.string x.name, .int .i64 x.delay, .int .i64 x.prio, .slice a1 ni c1, .slice a2 nn c2, .slice a3 no c3]]) (v0 := .string x.name) (v2 := .int .i64 x.prio) (v3 := .slice a1 ni c1) (v4 := .slice a2 nn c2) (by simp) hlk ?_)
              intro b6 n6 c6
              intro r19 r20 r185 r186 r187 r188 r189 r190 r191 r192 r193 r194 r195 r196 r197 r198 r199 r200 r201 r202 r203 r204 r205 r206 r207 r208 r209 r210 r211 r212 r213 r214 r215 r216 r217 r218 r219 r220 r221 r222 r223 r224 r225 r226 r227 r228 r229 r230 r231 r232 r233 r234 r235 r236 r237 r238 r239 r240 r241
              intro W6 hr6 hn6
              rw [Hlen.out] at hr6
              have h6 := hr6.sub (more' := [evRow (.slice b6 n6 c6) (u.q ++ outs t x.delay x.out), intRow (.slice (some ⟨fb, 0, none⟩) nt nt) (cs.set bn' (cb + 1))]) (by simp)
              have H6 := Lib.hid h6
              have Hn6 := Lib.hid hn6
              clear hr6 h6 hlk hn6
              go_wp2
              go_roundg k
              case measure => omega
              case rel =>
                refine ⟨cs.set bn' (cb + 1), fire t bn' x u, b6, n6, c6, rfl, rfl, ?_, ?_, hcs2, hcs3, i1, i2, by rw [fire_log, List.length_append, List.length_singleton]; omega, ?_⟩
                · rw [Hf.out]; exact H6.out
                · rw [Hf.out]; exact Hn6
                · exact Lib.hid (by have := Hgo.out; rw [Hget.out] at this; exact this)
end Go.Proofs.Ytpbbdnicafifpaa
