/-
  What the document's own Make comes to.
  Conditions: none beyond each theorem's own.
-/
import Derived.Test.YtpbbdnicafifpaaMakeB
namespace Go.Proofs.Ytpbbdnicafifpaa
open Go.RowKit
set_option linter.unusedVariables false

set_option maxRecDepth 100000 in
set_option maxHeartbeats 4000000 in
theorem make_any {w : World} {aT aA : Option Addr} {cTok cA : Nat} {ts : List Nat} {acs : List Ac} (h : DraftAt w (.slice aT ts.length cTok) (.slice aA acs.length cA) ts acs) :
    Calls Try.prog 16 #[.agg #[.slice aT ts.length cTok, .slice aA acs.length cA]] w fun e w' => ∃ vp vt, e = .returned (.agg #[vp, vt]) ∧ NetOwn w.heap.size w' vp vt (makeN ts acs) ∧ Below w.heap.size w w' := by
  have hmT := RowAt.max h.toks
  have hmA := RowAt.max h.acts
  have H := Lib.hid h
  obtain ⟨nT, hnT⟩ : ∃ k, k = ts.length := ⟨_, rfl⟩
  obtain ⟨nA, hnA⟩ : ∃ k, k = acs.length := ⟨_, rfl⟩
  rw [← hnT, ← hnA] at H ⊢
  rw [← hnT] at hmT
  rw [← hnA] at hmA
  have HnT := Lib.hid hnT
  have HnA := Lib.hid hnA
  have hcP : ((cntP ts : Nat) : Int) = 1 + (nT : Int) % 7 := by unfold cntP; omega
  have hcb := cntP_bd ts
  obtain ⟨m, hm⟩ : ∃ m, m = cntP ts := ⟨_, rfl⟩
  rw [← hm] at hcP hcb
  have Hm := Lib.hid hm
  clear h hnT hnA hm
  go_enter Try.func16, Try.ntmps16
  go_wp2
  go_loopw [4] (fun i wr => ∃ k : Nat, k ≤ m ∧ i = .int .i64 k ∧ ∃ vp, InMk w wr (.slice aT nT cTok) (.slice aA nA cA) vp (.slice none 0 0) (plsOf ts k) [] []) (fun i _ => m - (intOf i).toNat)
  case atStart => exact ⟨0, by omega, rfl, _, InMk.start _ _ _⟩
  case round =>
    rename World => v1
    obtain ⟨k, hk, rfl, vp, hin⟩ := hrel
    have d0 := hin.d0
    have n0 := hin.n0
    have hsz := hin.sz
    by_cases hlt : k < m
    · have hlti : (k : Int) < 1 + (nT : Int) % 7 := by omega
      have hw8 : IntKind.u8.wrap (97 + (k : Int)) = 97 + (k : Int) := u8_in _ (by omega) (by omega)
      have hcv := run_conv1 v1 k 97 (by omega)
      rw [show ((97 : Nat) : Int) = 97 from rfl] at hcv
      obtain ⟨sv, hsv⟩ : ∃ sv, sv = bs [UInt8.ofNat (97 + k)] := ⟨_, rfl⟩
      rw [← hsv] at hcv
      have hcat : ({ data := #[112] } : ByteArray) ++ sv = nameP k := by rw [hsv]; exact nameP_cat k
      have hsvs : sv.size = 1 := by rw [hsv]; rfl
      obtain ⟨nm, hnm⟩ : ∃ nm, nm = nameP k := ⟨_, rfl⟩
      rw [← hnm] at hcat
      by_cases hkt : k < nT
      · obtain ⟨t, ht⟩ := at_lt (l := ts) (k := k) (by rw [← HnT.out]; exact hkt)
        obtain ⟨b, off, rfl, hbw, f0, ht256⟩ := (H.out.below hin.below).tok ht
        have hkti : (k : Int) < (nT : Int) := by omega
        have hmk : mkP ts k = ⟨nm, (t : Int) % 5⟩ := by rw [hnm]; unfold mkP; rw [List.getD_eq_getElem?_getD, ht]; rfl
        obtain ⟨v2, w2, hr, ho2, hk2, hv2⟩ := run_push_pl 28 (mkP ts k) (w := v1.alloc (.cells #[.int .u8 (97 + (k : Int))] 5)) (hin.pl.alloc _) (by rw [plsOf_len]; omega) (by simp; omega)
        obtain ⟨av2, nv2, cv2, rfl⟩ := own_form3 ho2
        obtain ⟨hin2, g1, g2, g3⟩ := hin.pushP ((Below.refl _ _).alloc (Nat.le_refl _) _) ho2 hk2 hv2
        rw [show ∀ (W : World) (o : Obj), (W.alloc o).heap.size = W.heap.size + 1 from fun W o => by simp, hmk] at hr
        rw [← plsOf_succ] at hin2
        have Hin2 := Lib.hid hin2
        clear hin hin2 ho2 hk2 hv2 hmk ht hnm hsv
        go_wp2_with (at_builtin; refine wpList_append_eq rfl (.tmp 32) (.tmp 41) 28 rfl rfl rfl hr ?_)
        go_roundw
        case rel => exact ⟨k + 1, by omega, by go_num, _, Hin2.out⟩
        case measure => simp [intOf]; omega
      · have hkti : ¬ (k : Int) < (nT : Int) := by omega
        have hmk : mkP ts k = ⟨nm, 0⟩ := by rw [hnm]; unfold mkP; rw [List.getD_eq_getElem?_getD, List.getElem?_eq_none (by rw [← HnT.out]; omega)]; rfl
        obtain ⟨v2, w2, hr, ho2, hk2, hv2⟩ := run_push_pl 28 (mkP ts k) (w := v1.alloc (.cells #[.int .u8 (97 + (k : Int))] 5)) (hin.pl.alloc _) (by rw [plsOf_len]; omega) (by simp; omega)
        obtain ⟨av2, nv2, cv2, rfl⟩ := own_form3 ho2
        obtain ⟨hin2, g1, g2, g3⟩ := hin.pushP ((Below.refl _ _).alloc (Nat.le_refl _) _) ho2 hk2 hv2
        rw [show ∀ (W : World) (o : Obj), (W.alloc o).heap.size = W.heap.size + 1 from fun W o => by simp, hmk] at hr
        rw [← plsOf_succ] at hin2
        have Hin2 := Lib.hid hin2
        clear hin hin2 ho2 hk2 hv2 hmk hnm hsv
        go_wp2_with (at_builtin; refine wpList_append_eq rfl (.tmp 32) (.tmp 41) 28 rfl rfl rfl hr ?_)
        go_roundw
        case rel => exact ⟨k + 1, by omega, by go_num, _, Hin2.out⟩
        case measure => simp [intOf]; omega
    · have hge : ¬ (k : Int) < 1 + (nT : Int) % 7 := by omega
      obtain rfl : k = m := by omega
      have HcP := Lib.hid hcP
      clear hcP
      obtain ⟨ap, cp, hvp⟩ := own_form hin.pl
      rw [plsOf_len] at hvp
      subst hvp
      have n0 := hin.n0
      have Hin := Lib.hid hin
      clear hin
      go_wp2
      clear d0 n0
      obtain ⟨cT, hcT⟩ : ∃ c, c = cntT acs := ⟨_, rfl⟩
      have hcT9 : cT ≤ 9 := by rw [hcT]; exact cntT_bd _
      have hcTn : cT ≤ nA := by rw [hcT, HnA.out]; unfold cntT; omega
      have hcTm : cT = nA ∨ cT = 9 := by rw [hcT, HnA.out]; unfold cntT; omega
      have HcT := Lib.hid hcT
      clear hcT
      go_loopw [7] (fun i wr => ∃ j : Nat, j ≤ cT ∧ i = .int .i64 j ∧ ∃ vt l, l.map (·.1) = trsOf k acs j ∧ InMk w wr (.slice aT nT cTok) (.slice aA nA cA) (.slice ap k cp) vt (plsOf ts k) l []) (fun i _ => cT - (intOf i).toNat)
      case atStart => exact ⟨0, by omega, rfl, _, [], rfl, Hin.out⟩
      case round =>
        rename World => v2
        obtain ⟨j, hj, rfl, vt, l, hl, hin⟩ := hrel
        have d1 := hin.d1
        have n0 := hin.n0
        have hsz := hin.sz
        by_cases hlt : j < cT
        · have hjn : (j : Int) < (nA : Int) := by omega
          have hj9 : (j : Int) < 9 := by omega
          obtain ⟨x, hx⟩ := at_lt (l := acs) (k := j) (by rw [← HnA.out]; omega)
          obtain ⟨b, off, rfl, hbw, f0, f1, f2, f3, f4, f5, f6, hok⟩ := (H.out.below hin.below).act hx
          have hw8 : IntKind.u8.wrap (48 + (j : Int)) = 48 + (j : Int) := u8_in _ (by omega) (by omega)
          have hcv := run_conv1 (v2.alloc (.cells #[.int .u8 (x.d : Int), .int .u8 (x.p : Int), .int .u8 (x.i : Int), .int .u8 (x.j : Int), .int .u8 (x.n : Int), .int .u8 (x.o : Int), .int .u8 (x.q : Int)] 89)) j 48 (by omega)
          rw [show ((48 : Nat) : Int) = 48 from rfl, show ∀ (W : World) (o : Obj), (W.alloc o).heap.size = W.heap.size + 1 from fun W o => by simp] at hcv
          obtain ⟨sv, hsv⟩ : ∃ sv, sv = bs [UInt8.ofNat (48 + j)] := ⟨_, rfl⟩
          rw [← hsv] at hcv
          obtain ⟨sw, hsw⟩ : ∃ sw, ({ data := #[116] } : ByteArray) ++ sv = sw := ⟨_, rfl⟩
          have hcat : sw ++ ({ data := #[46, 120] } : ByteArray) = nameT j := by rw [← hsw, hsv]; exact nameT_cat j
          have hsvs : sv.size = 1 := by rw [hsv]; rfl
          have hsws : sw.size = 2 := by rw [← hsw, hsv]; rfl
          obtain ⟨nm, hnm⟩ : ∃ nm, nm = nameT j := ⟨_, rfl⟩
          rw [← hnm] at hcat
          have Hnm := Lib.hid hnm
          have Hx := Lib.hid hx
          have Hok := Lib.hid hok
          have Hl := Lib.hid hl
          have Hin3 := Lib.hid (hin.begin (o := .cells #[.int .u8 (48 + (j : Int))] 5) x nm ((x.d : Int) % 5) ((x.p : Int) % 3))
          obtain ⟨hq0, hq1, hq2, hq3, hq4, hq5, hq6⟩ := hok
          clear hx hl hin hsv hnm
          go_upto_region 15 with (fail)
          revert Hin3
          generalize (((v2.alloc (.cells #[.int .u8 (x.d : Int), .int .u8 (x.p : Int), .int .u8 (x.i : Int), .int .u8 (x.j : Int), .int .u8 (x.n : Int), .int .u8 (x.o : Int), .int .u8 (x.q : Int)] 89)).alloc (.cells #[.int .u8 (48 + (j : Int))] 5)).alloc (.cells #[.string nm, .int .i64 ((x.d : Int) % 5), .int .i64 ((x.p : Int) % 3), .slice none 0 0, .slice none 0 0, .slice none 0 0] 79)) = v3
          intro Hin3
          have hk0n : ¬ k = 0 := by omega
          have hk0c : (k == 0) = false := by simpa using hk0n
          have hkp : 0 < k := by omega
          obtain ⟨x0, x1, x2, x3, x4, x5, x6, t0, t1, t2, t3, t4, t5, fz, bxl, btl⟩ := Hin3.out.cells
          go_still_tail 13, (by kernel_rfl)
          change wpList _ _ _ _ _ v3.drew
          have Hd := Lib.hid (Hin3.out.go (below_drew (Below.refl _ _)))
          clear x0 x1 x2 x3 x4 x5 x6 t0 t1 t2 t3 t4 t5 fz bxl btl
          revert Hd
          generalize v3.drew = v4
          intro Hd
          have HP : Hid (∀ p n : Int, Calls Try.prog 43 #[(.slice none 0 0), .int .i64 p, .int .i64 n] v4 fun e w' => ∃ v', e = .returned v' ∧ PutOut w.heap.size v4 w' (.slice none 0 0) v' (putL [] p n)) := Lib.hid (fun p n => put_any Hd.out.a1 (by simp) Hd.out.below.size)
          go_upto_region 16 with (go_at_call 43; refine (HP.out _ _).mono ?_; rintro e w5 ⟨u, rfl, hpo⟩; obtain ⟨hin5, g1, g2, g3⟩ := Hd.out.put1 hpo; obtain ⟨ua, um, uc, hu⟩ := own_form3 hpo.own; subst hu; have Hin5 := Lib.hid hin5; clear hpo hin5)
          clear Hd HP g1 g2 g3 Hin3
          have Hc0 : Hid (InMk w (w5.setCell ⟨v2.heap.size + 1 + 1, 3, none⟩ (.slice ua um uc)) (.slice aT nT cTok) (.slice (some ⟨b, off, none⟩) nA cA) (.slice ap k cp) vt (plsOf ts k) l (tMore v2.heap.size (v2.heap.size + 2) x nm ((x.d : Int) % 5) ((x.p : Int) % 3) (.slice ua um uc) (.slice none 0 0) (.slice none 0 0) (inn1 k x) [] [])) := Lib.hid (by rw [inn1_int]; exact Hin5.out)
          clear Hin5
          revert Hc0
          generalize w5.setCell ⟨v2.heap.size + 1 + 1, 3, none⟩ (.slice ua um uc) = c0
          intro Hc0
          obtain ⟨x0, x1, x2, x3, x4, x5, x6, t0, t1, t2, t3, t4, t5, fz, bxl, btl⟩ := Hc0.out.cells
          go_upto_if 97 with (fail)
          go_cut [7] from 47 to 174 (fun s7 wc => s7 = .int .i64 j ∧ ∃ va vm vc, InMk w wc (.slice aT nT cTok) (.slice (some ⟨b, off, none⟩) nA cA) (.slice ap k cp) vt (plsOf ts k) l (tMore v2.heap.size (v2.heap.size + 2) x nm ((x.d : Int) % 5) ((x.p : Int) % 3) (.slice va vm vc) (.slice none 0 0) (.slice none 0 0) (innOf k x) [] []))
          case first =>
            by_cases hC : x.j % 3 = 0
            · have hCi : ((x.j : Int) % 3 == 0) = true := by simp; omega
              have hCn : x.j % 3 = 0 := hC
              go_wp2
              go_still_tail 8, (by kernel_rfl)
              change wpList _ _ _ _ _ c0.drew
              have Hd := Lib.hid (Hc0.out.go (below_drew (Below.refl _ _)))
              clear x0 x1 x2 x3 x4 x5 x6 t0 t1 t2 t3 t4 t5 fz bxl btl
              revert Hd
              generalize c0.drew = v4
              intro Hd
              have HP : Hid (∀ p n : Int, Calls Try.prog 43 #[(.slice ua um uc), .int .i64 p, .int .i64 n] v4 fun e w' => ∃ v', e = .returned v' ∧ PutOut w.heap.size v4 w' (.slice ua um uc) v' (putL (inn1 k x) p n)) := Lib.hid (fun p n => put_any Hd.out.a1 (by rw [inn1_len]; omega) Hd.out.below.size)
              go_wp2_with (go_at_call 43; refine (HP.out _ _).mono ?_; rintro e w5 ⟨u, rfl, hpo⟩; obtain ⟨hin5, g1, g2, g3⟩ := Hd.out.put1 hpo; obtain ⟨ua, um, uc, hu⟩ := own_form3 hpo.own; subst hu; have Hin5 := Lib.hid hin5; clear hpo hin5)
              go_meet
              case rel => exact ⟨rfl, _, _, _, by rw [innOf_yes k x hC]; exact Hin5.out⟩
            · have hCi : ((x.j : Int) % 3 == 0) = false := by simp; omega
              go_wp2
              go_meet
              case rel => exact ⟨rfl, _, _, _, by rw [innOf_no k x hC]; exact Hc0.out⟩
          case rest =>
            obtain ⟨rfl, va0, vm0, vc0, hcc⟩ := hcut
            clear x0 x1 x2 x3 x4 x5 x6 t0 t1 t2 t3 t4 t5 fz bxl btl
            rename World => c1
            have Hc1 := Lib.hid hcc
            clear hcc Hc0
            obtain ⟨x0, x1, x2, x3, x4, x5, x6, t0, t1, t2, t3, t4, t5, fz, bxl, btl⟩ := Hc1.out.cells
            go_upto_if 111 with (fail)
            go_cut [7] from 47 to 174 (fun s7 wc => s7 = .int .i64 j ∧ ∃ va vm vc, InMk w wc (.slice aT nT cTok) (.slice (some ⟨b, off, none⟩) nA cA) (.slice ap k cp) vt (plsOf ts k) l (tMore v2.heap.size (v2.heap.size + 2) x nm ((x.d : Int) % 5) ((x.p : Int) % 3) (.slice va0 vm0 vc0) (.slice va vm vc) (.slice none 0 0) (innOf k x) (ntOf k x) []))
            case first =>
              by_cases hC : x.n % 4 = 0
              · have hCi : ((x.n : Int) % 4 == 0) = true := by simp; omega
                have hCn : x.n % 4 = 0 := hC
                go_wp2
                go_still_tail 13, (by kernel_rfl)
                change wpList _ _ _ _ _ c1.drew
                have Hd := Lib.hid (Hc1.out.go (below_drew (Below.refl _ _)))
                clear x0 x1 x2 x3 x4 x5 x6 t0 t1 t2 t3 t4 t5 fz bxl btl
                revert Hd
                generalize c1.drew = v4
                intro Hd
                have HP : Hid (∀ p n : Int, Calls Try.prog 43 #[(.slice none 0 0), .int .i64 p, .int .i64 n] v4 fun e w' => ∃ v', e = .returned v' ∧ PutOut w.heap.size v4 w' (.slice none 0 0) v' (putL [] p n)) := Lib.hid (fun p n => put_any Hd.out.a2 (by simp) Hd.out.below.size)
                go_wp2_with (go_at_call 43; refine (HP.out _ _).mono ?_; rintro e w5 ⟨u, rfl, hpo⟩; obtain ⟨hin5, g1, g2, g3⟩ := Hd.out.put2 hpo; obtain ⟨ua, um, uc, hu⟩ := own_form3 hpo.own; subst hu; have Hin5 := Lib.hid hin5; clear hpo hin5)
                go_meet
                case rel => exact ⟨rfl, _, _, _, by rw [ntOf_yes k x hC]; exact Hin5.out⟩
              · have hCi : ((x.n : Int) % 4 == 0) = false := by simp; omega
                go_wp2
                go_meet
                case rel => exact ⟨rfl, _, _, _, by rw [ntOf_no k x hC]; exact Hc1.out⟩
            case rest =>
              obtain ⟨rfl, va1, vm1, vc1, hcc⟩ := hcut
              clear x0 x1 x2 x3 x4 x5 x6 t0 t1 t2 t3 t4 t5 fz bxl btl
              rename World => c2
              have Hc2 := Lib.hid hcc
              clear hcc Hc1
              obtain ⟨x0, x1, x2, x3, x4, x5, x6, t0, t1, t2, t3, t4, t5, fz, bxl, btl⟩ := Hc2.out.cells
              go_upto_if 130 with (fail)
              go_cut [7] from 47 to 174 (fun s7 wc => s7 = .int .i64 j ∧ ∃ va vm vc, InMk w wc (.slice aT nT cTok) (.slice (some ⟨b, off, none⟩) nA cA) (.slice ap k cp) vt (plsOf ts k) l (tMore v2.heap.size (v2.heap.size + 2) x nm ((x.d : Int) % 5) ((x.p : Int) % 3) (.slice va0 vm0 vc0) (.slice va1 vm1 vc1) (.slice va vm vc) (innOf k x) (ntOf k x) (out1 k x)))
              case first =>
                by_cases hC : 0 < x.o % 5
                · have hCi : decide (0 < (x.o : Int) % 5) = true := by simp; omega
                  have hCn : 0 < x.o % 5 := hC
                  go_wp2
                  go_still_tail 13, (by kernel_rfl)
                  change wpList _ _ _ _ _ c2.drew
                  have Hd := Lib.hid (Hc2.out.go (below_drew (Below.refl _ _)))
                  clear x0 x1 x2 x3 x4 x5 x6 t0 t1 t2 t3 t4 t5 fz bxl btl
                  revert Hd
                  generalize c2.drew = v4
                  intro Hd
                  have HP : Hid (∀ p n : Int, Calls Try.prog 43 #[(.slice none 0 0), .int .i64 p, .int .i64 n] v4 fun e w' => ∃ v', e = .returned v' ∧ PutOut w.heap.size v4 w' (.slice none 0 0) v' (putL [] p n)) := Lib.hid (fun p n => put_any Hd.out.a3 (by simp) Hd.out.below.size)
                  go_wp2_with (go_at_call 43; refine (HP.out _ _).mono ?_; rintro e w5 ⟨u, rfl, hpo⟩; obtain ⟨hin5, g1, g2, g3⟩ := Hd.out.put3 hpo; obtain ⟨ua, um, uc, hu⟩ := own_form3 hpo.own; subst hu; have Hin5 := Lib.hid hin5; clear hpo hin5)
                  go_meet
                  case rel => exact ⟨rfl, _, _, _, by rw [out1_yes k x hC]; exact Hin5.out⟩
                · have hCi : decide (0 < (x.o : Int) % 5) = false := by simp; omega
                  go_wp2
                  go_meet
                  case rel => exact ⟨rfl, _, _, _, by rw [out1_no k x hC]; exact Hc2.out⟩
              case rest =>
                obtain ⟨rfl, va2, vm2, vc2, hcc⟩ := hcut
                clear x0 x1 x2 x3 x4 x5 x6 t0 t1 t2 t3 t4 t5 fz bxl btl
                rename World => c3
                have Hc3 := Lib.hid hcc
                clear hcc Hc2
                obtain ⟨x0, x1, x2, x3, x4, x5, x6, t0, t1, t2, t3, t4, t5, fz, bxl, btl⟩ := Hc3.out.cells
                go_upto_if 149 with (fail)
                go_cut [7] from 47 to 174 (fun s7 wc => s7 = .int .i64 j ∧ ∃ va vm vc, InMk w wc (.slice aT nT cTok) (.slice (some ⟨b, off, none⟩) nA cA) (.slice ap k cp) vt (plsOf ts k) l (tMore v2.heap.size (v2.heap.size + 2) x nm ((x.d : Int) % 5) ((x.p : Int) % 3) (.slice va0 vm0 vc0) (.slice va1 vm1 vc1) (.slice va vm vc) (innOf k x) (ntOf k x) (outOf k x)))
                case first =>
                  by_cases hC : 0 < x.q % 3
                  · have hCi : decide (0 < (x.q : Int) % 3) = true := by simp; omega
                    have hCn : 0 < x.q % 3 := hC
                    go_wp2
                    go_still_tail 8, (by kernel_rfl)
                    change wpList _ _ _ _ _ c3.drew
                    have Hd := Lib.hid (Hc3.out.go (below_drew (Below.refl _ _)))
                    clear x0 x1 x2 x3 x4 x5 x6 t0 t1 t2 t3 t4 t5 fz bxl btl
                    revert Hd
                    generalize c3.drew = v4
                    intro Hd
                    have HP : Hid (∀ p n : Int, Calls Try.prog 43 #[(.slice va2 vm2 vc2), .int .i64 p, .int .i64 n] v4 fun e w' => ∃ v', e = .returned v' ∧ PutOut w.heap.size v4 w' (.slice va2 vm2 vc2) v' (putL (out1 k x) p n)) := Lib.hid (fun p n => put_any Hd.out.a3 (by have := out1_len k x; omega) Hd.out.below.size)
                    go_wp2_with (go_at_call 43; refine (HP.out _ _).mono ?_; rintro e w5 ⟨u, rfl, hpo⟩; obtain ⟨hin5, g1, g2, g3⟩ := Hd.out.put3 hpo; obtain ⟨ua, um, uc, hu⟩ := own_form3 hpo.own; subst hu; have Hin5 := Lib.hid hin5; clear hpo hin5)
                    go_meet
                    case rel => exact ⟨rfl, _, _, _, by rw [outOf_yes k x hC]; exact Hin5.out⟩
                  · have hCi : decide (0 < (x.q : Int) % 3) = false := by simp; omega
                    go_wp2
                    go_meet
                    case rel => exact ⟨rfl, _, _, _, by rw [outOf_no k x hC]; exact Hc3.out⟩
                case rest =>
                  obtain ⟨rfl, va3, vm3, vc3, hcc⟩ := hcut
                  clear x0 x1 x2 x3 x4 x5 x6 t0 t1 t2 t3 t4 t5 fz bxl btl
                  rename World => c4
                  have Hc4 := Lib.hid hcc
                  clear hcc Hc3
                  obtain ⟨x0, x1, x2, x3, x4, x5, x6, t0, t1, t2, t3, t4, t5, fz, bxl, btl⟩ := Hc4.out.cells
                  have Hdl : Hid (∀ W : World, ((x.d : Int) % 5 = 0 ∧ (x.d : Int) < 128 → InMk w W (.slice aT nT cTok) (.slice (some ⟨b, off, none⟩) nA cA) (.slice ap k cp) vt (plsOf ts k) l (tMore v2.heap.size (v2.heap.size + 2) x nm 1 ((x.p : Int) % 3) (.slice va0 vm0 vc0) (.slice va1 vm1 vc1) (.slice va3 vm3 vc3) (innOf k x) (ntOf k x) (outOf k x)) → InMk w W (.slice aT nT cTok) (.slice (some ⟨b, off, none⟩) nA cA) (.slice ap k cp) vt (plsOf ts k) l (tMore v2.heap.size (v2.heap.size + 2) x nm ((delayOf x : Nat) : Int) ((x.p : Int) % 3) (.slice va0 vm0 vc0) (.slice va1 vm1 vc1) (.slice va3 vm3 vc3) (innOf k x) (ntOf k x) (outOf k x))) ∧ (¬ ((x.d : Int) % 5 = 0 ∧ (x.d : Int) < 128) → InMk w W (.slice aT nT cTok) (.slice (some ⟨b, off, none⟩) nA cA) (.slice ap k cp) vt (plsOf ts k) l (tMore v2.heap.size (v2.heap.size + 2) x nm ((x.d : Int) % 5) ((x.p : Int) % 3) (.slice va0 vm0 vc0) (.slice va1 vm1 vc1) (.slice va3 vm3 vc3) (innOf k x) (ntOf k x) (outOf k x)) → InMk w W (.slice aT nT cTok) (.slice (some ⟨b, off, none⟩) nA cA) (.slice ap k cp) vt (plsOf ts k) l (tMore v2.heap.size (v2.heap.size + 2) x nm ((delayOf x : Nat) : Int) ((x.p : Int) % 3) (.slice va0 vm0 vc0) (.slice va1 vm1 vc1) (.slice va3 vm3 vc3) (innOf k x) (ntOf k x) (outOf k x)))) := Lib.hid (fun W => ⟨fun h1 h2 => by rw [delayOf_yes x (by omega) (by omega)]; exact h2, fun h1 h2 => by rw [delayOf_no x (by omega)]; exact h2⟩)
                  obtain ⟨dq, hdq⟩ : ∃ dq, dq = decide ((x.d : Int) % 5 = 0 ∧ (x.d : Int) < 128) := ⟨_, rfl⟩
                  have Hdq := Lib.hid hdq
                  clear hdq
                  go_upto_region 24 with (fail)
                  go_cut [7, 167] from 47 to 174 (fun s7 s167 wc => s7 = .int .i64 j ∧ s167 = .bool dq ∧ c4 = wc)
                  case first =>
                    by_cases hC : (x.d : Int) % 5 = 0
                    · have hCb : ((x.d : Int) % 5 == 0) = true := by simpa using hC
                      by_cases hE : (x.d : Int) < 128
                      · have hEb : decide ((x.d : Int) < 128) = true := decide_eq_true hE
                        have hEn : x.d < 128 := by omega
                        have Hd1 : Hid (dq = true) := Lib.hid (by rw [Hdq.out]; exact decide_eq_true ⟨hC, hE⟩)
                        go_wp2
                        go_meet
                        case rel => exact ⟨rfl, by rw [Hd1.out], rfl⟩
                      · have hEb : decide ((x.d : Int) < 128) = false := decide_eq_false hE
                        have hEn : ¬ x.d < 128 := by omega
                        have hEc : decide (x.d < 128) = false := decide_eq_false hEn
                        have Hd1 : Hid (dq = false) := Lib.hid (by rw [Hdq.out]; exact decide_eq_false (fun h => hE h.2))
                        go_wp2
                        go_meet
                        case rel => exact ⟨rfl, by rw [Hd1.out], rfl⟩
                    · have hCb : ((x.d : Int) % 5 == 0) = false := by simpa using hC
                      have Hd1 : Hid (dq = false) := Lib.hid (by rw [Hdq.out]; exact decide_eq_false (fun h => hC h.1))
                      go_wp2
                      go_meet
                      case rel => exact ⟨rfl, by rw [Hd1.out], rfl⟩
                  case rest =>
                    obtain ⟨rfl, rfl, rfl⟩ := hcut
                    go_upto_if 167 with (fail)
                    go_cut [7] from 47 to 174 (fun s7 wc => s7 = .int .i64 j ∧ InMk w wc (.slice aT nT cTok) (.slice (some ⟨b, off, none⟩) nA cA) (.slice ap k cp) vt (plsOf ts k) l (tMore v2.heap.size (v2.heap.size + 2) x nm ((delayOf x : Nat) : Int) ((x.p : Int) % 3) (.slice va0 vm0 vc0) (.slice va1 vm1 vc1) (.slice va3 vm3 vc3) (innOf k x) (ntOf k x) (outOf k x)))
                    case first =>
                      cases dq with
                      | true =>
                        have hdd := of_decide_eq_true Hdq.out.symm
                        have Hdd := Lib.hid hdd
                        have fz1 := fz 1
                        clear hdd
                        go_wp2
                        go_meet
                        case rel => exact ⟨rfl, (Hdl.out _).1 Hdd.out (Hc4.out.delay 1)⟩
                      | false =>
                        have Hdd := Lib.hid (of_decide_eq_false Hdq.out.symm)
                        go_wp2
                        go_meet
                        case rel => exact ⟨rfl, (Hdl.out _).2 Hdd.out Hc4.out⟩
                    case rest =>
                      obtain ⟨rfl, hcc⟩ := hcut
                      clear x0 x1 x2 x3 x4 x5 x6 t0 t1 t2 t3 t4 t5 fz bxl btl
                      rename World => c5
                      have Hc5 := Lib.hid hcc
                      clear hcc Hc4 Hdl
                      obtain ⟨x0, x1, x2, x3, x4, x5, x6, t0, t1, t2, t3, t4, t5, fz, bxl, btl⟩ := Hc5.out.cells
                      have n1 := Hc5.out.n1
                      obtain ⟨v9, w9, hr, ho9, hk9, hv9⟩ := run_push_tr 29 ((⟨nm, ((delayOf x : Nat) : Int), ((x.p : Int) % 3), (innOf k x), (ntOf k x), (outOf k x)⟩ : Tr), (Value.slice va0 vm0 vc0), (Value.slice va1 vm1 vc1), (Value.slice va3 vm3 vc3)) Hc5.out.tr rfl rfl rfl (by have := congrArg List.length Hl.out; rw [List.length_map, trsOf_len] at this; omega) Hc5.out.below.size
                      obtain ⟨a9, m9, e9, rfl⟩ := own_form3 ho9
                      obtain ⟨hin9, q1, q2, q3⟩ := Hc5.out.pushT ho9 hk9 hv9
                      have Hin9 := Lib.hid hin9
                      have Hl9 : Hid ((l ++ [((⟨nm, ((delayOf x : Nat) : Int), ((x.p : Int) % 3), (innOf k x), (ntOf k x), (outOf k x)⟩ : Tr), (Value.slice va0 vm0 vc0), (Value.slice va1 vm1 vc1), (Value.slice va3 vm3 vc3))]).map (·.1) = trsOf k acs (j + 1)) := Lib.hid (by
                        rw [List.map_append, Hl.out, trsOf_succ]
                        have e1 : acs.getD j Ac.zero = x := by rw [List.getD_eq_getElem?_getD, Hx.out]; rfl
                        rw [e1, mkT_int k j x nm Hnm.out]; rfl)
                      clear hin9 ho9 hk9 hv9
                      go_wp2_with (at_builtin; refine wpList_append_eq rfl (.tmp 170) (.tmp 172) 29 rfl rfl rfl hr ?_)
                      go_roundw
                      case rel => exact ⟨j + 1, by omega, by go_num, _, _, Hl9.out, Hin9.out⟩
                      case measure => simp [intOf]; omega
        · have hgeb : (j < nA ∧ ¬ j < 9) ∨ ¬ j < nA := by omega
          obtain rfl : j = cT := by omega
          obtain ⟨at_, ct, hvt⟩ := own_form hin.tr
          subst hvt
          have n1 := hin.n1
          have r0 := hin.r0
          have r1 := hin.r1
          have rf0 := hin.rf 0
          have rf1 := hin.rf 1
          have Hfin := Lib.hid (hin.finish)
          have rc0 := hin.finish.2.2.1
          have rc1 := hin.finish.2.2.2
          have Hnet : Hid (makeN ts acs = ⟨plsOf ts k, trsOf k acs j⟩) := Lib.hid (by unfold makeN; rw [← Hm.out, ← HcT.out])
          have Hl := Lib.hid hl
          clear hin hl
          rcases hgeb with ⟨g1, g2⟩ | g1
          · have hjn : (j : Int) < (nA : Int) := by omega
            have hj9 : ¬ (j : Int) < 9 := by omega
            have hj9b : decide ((j : Int) < 9) = false := decide_eq_false hj9
            have hj9c : decide (j < 9) = false := decide_eq_false g2
            go_wp2
            exact bodyPost_ret (v := .agg #[.slice ap k cp, .slice at_ l.length ct]) (by simp [results, Try.results16, go_sem, rc0, rc1]) rfl ⟨_, _, rfl, ⟨l, by rw [Hnet.out]; exact Hl.out, by rw [Hnet.out]; exact Hfin.out.1⟩, Hfin.out.2.1⟩
          · have hjn : ¬ (j : Int) < (nA : Int) := by omega
            have hjnb : decide ((j : Int) < (nA : Int)) = false := decide_eq_false hjn
            have hjnc : decide (j < nA) = false := decide_eq_false g1
            go_wp2
            exact bodyPost_ret (v := .agg #[.slice ap k cp, .slice at_ l.length ct]) (by simp [results, Try.results16, go_sem, rc0, rc1]) rfl ⟨_, _, rfl, ⟨l, by rw [Hnet.out]; exact Hl.out, by rw [Hnet.out]; exact Hfin.out.1⟩, Hfin.out.2.1⟩
end Go.Proofs.Ytpbbdnicafifpaa
