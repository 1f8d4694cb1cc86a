/- The walk of the law StackSafe. -/
import Derived.Test.YtbgmdckfkfkglaaSEcho
import Derived.Test.YtbgmdckfkfkglaaSSafeM
import Derived.Test.YtbgmdckfkfkglaaHHts
import Derived.Test.YtbgmdckfkfkglaaHMade
import Derived.Deep.RegionWith
import Derived.Deep.RegionHeld3
import Derived.Deep.DeepCutAuto
set_option linter.unusedSimpArgs false
set_option linter.unusedVariables false
namespace Go.Proofs.Ytbgmdckfkfkglaa
open Go.RowKit M

set_option maxRecDepth 10000 in
set_option maxHeartbeats 3200000 in
theorem safe9Law_any (b : Nat) (ao : Option Addr) (n cap : Nat) (L : List Cod) (a1 : Option Addr) (m c1 : Nat) (zs : List Int) (x : Nat) (hx : x ≤ 255) (w : World) (hs : CSrc w b (.slice ao n cap) L) (hn : L.length = n) (hf : ∀ c ∈ L, c.Fits) (hr : IsRow .u8 w a1 m c1 zs) :
    Calls Try.prog 12 #[.slice ao n cap, .slice a1 m c1, .int .u8 x] w fun e w' => e = .returned (.bool true) ∧ Only Nil w w' := by
  have cK := known9_any w
  by_cases h40 : 40 < n
  · have t1 : (40 : Int) < (n : Int) := by omega
    clear hs hn hf hr
    go_enter Try.func12, Try.ntmps12
    go_wp2_with fail
    refine cK.mono ?_
    rintro e w1 ⟨rfl, ho1⟩
    clear cK
    go_wp2_with fail
    go_ret
    exact ⟨rfl, ho1⟩
  by_cases h20 : 20 < m
  · have t1 : (n : Int) ≤ 40 := by omega
    have t2 : (20 : Int) < (m : Int) := by omega
    clear hs hn hf hr h40
    go_enter Try.func12, Try.ntmps12
    go_wp2_with fail
    refine cK.mono ?_
    rintro e w1 ⟨rfl, ho1⟩
    clear cK
    go_wp2_with fail
    go_ret
    exact ⟨rfl, ho1⟩
  have t1 : decide ((40 : Int) < (n : Int)) = false := by simp; omega
  have t2 : decide ((20 : Int) < (m : Int)) = false := by simp; omega
  have cM := fun (w' : World) (ho : Only Nil w w') => made_any b ao n cap L w' (hs.kept ho) hn hf (by omega)
  obtain ⟨bi, B, hBl, hBs, _, hB⟩ := hr.bytes
  have hm20 : m ≤ 20 := by omega
  have hn40 : n ≤ 40 := by omega
  have HBL := Lib.hid hBl
  have HBS := Lib.hid hBs
  have HB := Lib.hid hB
  clear hs hn hf hr hBl hBs hB h40 h20
  go_enter Try.func12, Try.ntmps12
  go_wp2_with fail
  refine cK.mono ?_
  rintro e w1 ⟨rfl, ho1⟩
  clear cK
  go_wp2_with fail
  refine (cM w1 ho1).mono ?_
  rintro e w2 ⟨v, L', rfl, hL', hF', hown, ho2⟩
  have ho12 := ho1.trans ho2 (fun _ _ h => h)
  obtain ⟨n2, hn2⟩ : ∃ n2, L'.length = n2 := ⟨_, rfl⟩
  have hn61 : n2 ≤ 41 := by omega
  have hsx := CSrc.of_own hown
  rw [hn2] at hown hL'
  obtain ⟨av, cv, rfl⟩ := own_slice hown
  have hnone : av = none → cv = 0 := by
    rcases hown.2 with ⟨h, _⟩ | ⟨g, cap, cur, h, _⟩
    · simp only [Value.slice.injEq] at h; exact fun _ => h.2.2
    · simp only [Value.slice.injEq] at h; intro h0; rw [h0] at h; cases h.1
  have HNONE := Lib.hid hnone
  clear hnone
  obtain ⟨av', cv', offv, hev, hlc, hcm, h4, h5⟩ := hsx
  obtain ⟨bb, hbb⟩ : ∃ bb, (Value.slice av n2 cv).ownBlock.getD 0 = bb := ⟨_, rfl⟩
  rw [hbb] at h4 h5
  simp only [Value.slice.injEq, hn2] at hev
  obtain ⟨rfl, _, rfl⟩ := hev
  rw [hn2] at h4
  have HN := Lib.hid hn2
  have HF := Lib.hid hF'
  have H4 := Lib.hid h4
  have H5 := Lib.hid h5
  have HO2 := Lib.hid ho12
  rw [hn2] at hlc
  have HLC := Lib.hid hlc
  have HCM := Lib.hid hcm
  clear cM ho1 ho2 hown ho12 hn2 hF' h4 h5 hL' hbb hcm hlc
  go_wp2_with fail
  go_loopg [8] n2 (fun g i wr => g ≤ n2 ∧ i = .int .i64 ((n2 - g : Nat) : Int) ∧ Only Nil w2 wr ∧ ∀ j c, j < n2 - g → L'[j]? = some c → c.op ≠ 27 ∧ c.op ≠ 29)
  case atStart => exact ⟨Nat.le_refl _, by simp, Only.refl _ _, fun j c hj => by omega⟩
  case round =>
    obtain ⟨hg, rfl, ho, hall⟩ := hrel
    obtain ⟨g, rfl⟩ : ∃ g, g = gk := ⟨gk, rfl⟩
    obtain ⟨q, hq⟩ : ∃ q, n2 - g = q := ⟨_, rfl⟩
    rw [hq] at hall ⊢
    have hqn : q ≤ n2 := by omega
    have HQ := Lib.hid hq
    have HALL := Lib.hid hall
    clear hq hall
    by_cases hql : q < n2
    · have hql2 : q < L'.length := by rw [HN.out]; exact hql
      obtain ⟨c, hc⟩ : ∃ c, L'[q]? = some c := ⟨_, List.getElem?_eq_getElem hql2⟩
      have ea := H4.out (by omega)
      subst ea
      obtain ⟨r0, r1⟩ := (H5.out.kept ho (fun h => h)) q c hc
      obtain ⟨op, k⟩ := c
      simp only at r0 r1
      have k0 : (0 : Int) ≤ (q : Int) := Int.natCast_nonneg _
      have k1 : (q : Int) < (n2 : Int) := by omega
      have HC := Lib.hid hc
      have HO := Lib.hid ho
      clear hql2 hc ho
      by_cases e27 : op = 27
      · have t27 : (op == 27) = true := by simpa using e27
        clear e27
        go_wp2_with fail
        go_ret
        exact ⟨rfl, HO2.out.trans HO.out (fun _ _ h => h)⟩
      · have t27 : (op == 27) = false := by simpa using e27
        by_cases e29 : op = 29
        · have t29 : (op == 29) = true := by simpa using e29
          clear e27 e29
          go_wp2_with fail
          go_ret
          exact ⟨rfl, HO2.out.trans HO.out (fun _ _ h => h)⟩
        · have t29 : (op == 29) = false := by simpa using e29
          have H27 := Lib.hid e27
          have H29 := Lib.hid e29
          clear e27 e29
          go_wp2_with fail
          go_roundg (g - 1)
          case measure => have := HQ.out; omega
          case rel =>
            refine ⟨by omega, by have := HQ.out; go_num, HO.out, fun j c hj hc => ?_⟩
            have := HQ.out
            by_cases hjq : j < q
            · exact HALL.out j c hjq hc
            · have e : j = q := by omega
              rw [e, HC.out] at hc
              injection hc with hc
              subst hc
              exact ⟨H27.out, H29.out⟩
    · have hqn2 : q = n2 := by omega
      subst hqn2
      have r1 : ¬ ((q : Int) < (q : Int)) := by omega
      have hsx : CSrc wr bb (.slice av q cv) L' := ⟨av, cv, offv, by rw [HN.out], by rw [HN.out]; exact HLC.out, HCM.out, by rw [HN.out]; exact H4.out, H5.out.kept ho (fun h => h)⟩
      have hcx : ∀ c ∈ L', c.op ≠ 27 ∧ c.op ≠ 29 := by
        intro c hc
        obtain ⟨j, hj, he⟩ := List.getElem_of_mem hc
        exact HALL.out j c (by rw [HN.out] at hj; exact hj) (by rw [List.getElem?_eq_getElem hj, he])
      have hi32 : ∀ c ∈ L', I32 c.k := fun c hc => (HF.out c hc).2
      have cI := htsI_any bb av q cv L' wr hsx HN.out HF.out (by omega)
      have HSX := Lib.hid hsx
      have HCX := Lib.hid hcx
      have HI := Lib.hid hi32
      have HO := Lib.hid (HO2.out.trans ho (fun _ _ h => h))
      clear hsx hcx hi32 ho
      go_wp2_with fail
      refine cI.mono ?_
      rintro e w7 ⟨ok7, H7, v7, rfl, hT7, hown7, ho7⟩
      clear cI
      obtain ⟨a7, c7, rfl⟩ := own_slice hown7
      have HOWN := Lib.hid hown7
      have hoW := HO.out.trans ho7 (fun _ _ h => h)
      have HOW := Lib.hid hoW
      have hsx7 := HSX.out.kept ho7
      have hin7 := HBS.out.kept hoW (fun _ h => h)
      have HT7 := Lib.hid hT7
      clear hown7 ho7 hoW hT7
      cases ok7
      · go_wp2_with fail
        go_ret
        exact ⟨rfl, HOW.out⟩
      · have hl7 : H7.length = q := by
          rcases HT7.out with ⟨h, _⟩ | ⟨_, _, _, h, _⟩
          · cases h
          · rw [h, HN.out]
        have hchk : chk L' = none := by
          rcases HT7.out with ⟨h, _⟩ | ⟨_, h, _, _, _⟩
          · cases h
          · exact h
        have HCHK := Lib.hid hchk
        have hownH := HOWN.out
        have hsH := Src.of_own hownH
        obtain ⟨bh, hbh⟩ : ∃ bh, (Value.slice a7 H7.length c7).ownBlock.getD 0 = bh := ⟨_, rfl⟩
        rw [hbh] at hsH
        obtain ⟨ah, ch, oh, heh, p2, _, p4⟩ := hsH
        rw [Ints_len] at heh p2
        simp only [Value.slice.injEq] at heh
        obtain ⟨rfl, _, rfl⟩ := heh
        rw [hl7] at p2 ⊢
        have HL7 := Lib.hid hl7
        have P2 := Lib.hid p2
        have P4 := Lib.hid p4
        have cN := newS_any (Q := Nil) L' B 100 10 100 10 100 10 (by decide) (by decide) (by decide) (by decide) bb bi _ _ w7 hsx7 (fun n cap h => by
          simp only [Value.slice.injEq] at h
          obtain ⟨h1, h2, h3⟩ := h
          rw [← h3]; exact HNONE.out h1) hin7 (by rw [HN.out]; omega) (by rw [HBL.out]; omega) (by decide) (fun _ h => h.elim)
        clear hchk hownH hbh hl7 p2 p4 hsx7 hin7
        go_wp2_with fail
        refine cN.mono ?_
        rintro e w8 ⟨mb, wb, cv8, iv8, rfl, hmb, hwb, ho8, hM8⟩
        clear cN
        have hF8 : Fr3 w7.heap.size mb wb (.slice none 0 0) (.slice none 0 0) (.slice none 0 0) := Fr3.new hmb hwb
        have HF8 := Lib.hid hF8
        have HO8 := Lib.hid ho8
        have HM8 := Lib.hid hM8
        have hok0 := ss0_ok 100 10 B (by decide) (by decide) HB.out
        have HOK0 := Lib.hid hok0
        clear hF8 ho8 hM8 hmb hwb hok0
        go_wp2_with fail
        go_loopg [12] x (fun g i wx => g ≤ x ∧ i = .int .i64 ((x - g : Nat) : Int) ∧ Only Nil w7 wx ∧ ∃ (sx : SS) (sv kv iv ov : Value), sx.Ok ∧ Inv L' sx ∧ sx.out.length ≤ x - g ∧ SAt Nil wx mb wb L' sx cv8 sv kv iv ov ∧ Fr3 w7.heap.size mb wb sv kv ov)
        case atStart => exact ⟨Nat.le_refl _, by simp, HO8.out, ss0 100 10 B, _, _, _, _, HOK0.out, fun _ => ⟨0, rfl, M.Reach.zero⟩, Nat.zero_le _, HM8.out, HF8.out⟩
        case round =>
          obtain ⟨hg, rfl, ho9, sx, sv, kv, iv, ov, hok, hinv, hout, hM, hFr⟩ := hrel
          obtain ⟨g, rfl⟩ : ∃ g, g = gk := ⟨gk, rfl⟩
          obtain ⟨r, hr⟩ : ∃ r, x - g = r := ⟨_, rfl⟩
          rw [hr] at hout ⊢
          have hrx : r ≤ x := by omega
          have HR := Lib.hid hr
          clear hr
          by_cases hrl : r < x
          · have cR := resultS_any mb wb L' sx _ _ _ _ _ wr hM (by omega)
            have r0 : (r : Int) < (x : Int) := by omega
            have HOK := Lib.hid hok
            have HINV := Lib.hid hinv
            have HM := Lib.hid hM
            have HFR := Lib.hid hFr
            have HO9 := Lib.hid ho9
            clear hok hinv hM hFr ho9
            go_wp2_with fail
            refine cR.mono ?_
            rintro e w10 ⟨rv, rfl, hown10, ho10⟩
            clear cR
            obtain ⟨ao9, n9, cap9, rfl⟩ := ownsRow_slice hown10
            by_cases hfin : sx.fin = 0
            · obtain ⟨i, hpc, hil, _, hHi⟩ := inv_told HT7.out HINV.out hfin
              rw [HN.out] at hil
              rw [hfin, show ((0 : Nat) : Int) = 0 from rfl]
              have HFIN := Lib.hid hfin
              have HO10 := Lib.hid ho10
              clear hown10 ho10 hfin
              go_wp2_with fail
              obtain ⟨w11, hw11⟩ : ∃ w11, w10.alloc (.cells #[Value.slice ao9 n9 cap9, .int .i64 0, .int .i64 (sx.trap : Nat)] 44) = w11 := ⟨_, rfl⟩
              have ho11 : Only Nil wr w11 := by rw [← hw11]; exact HO10.out.alloc _
              rw [hw11]
              have hM11 := HM.out.quiet ho11
              have HO11 := Lib.hid (HO9.out.trans ho11 (fun _ _ h => h))
              have HM11 := Lib.hid hM11
              have cP := pcS_any mb wb L' sx _ _ _ _ _ w11 hM11
              rw [hpc] at cP
              have hHi2 : (Ints H7)[i]? = some (.int .i64 (sx.ops.length : Nat)) := by
                have e : H7[i]? = some (sx.ops.length : Int) := by
                  rw [← hHi, List.getD_eq_getElem?_getD, List.getElem?_eq_getElem (by rw [HL7.out]; exact hil)]; rfl
                simp [Ints, e]
              have hcell := HO11.out.cell (P4.out i _ hHi2) (fun h => h)
              have ea := P2.out (by omega)
              subst ea
              have i0 : (0 : Int) ≤ (i : Int) := Int.natCast_nonneg _
              have i1 : (i : Int) < (q : Int) := by omega
              have i2 : decide ((i : Int) < 0) = false := by simp
              have i3 : decide ((q : Int) ≤ (i : Int)) = false := by simp; omega
              have i4 : decide (q ≤ i) = false := by simp; omega
              have i5 : i < q := hil
              have hops := HOK.out.nops
              obtain ⟨d, hd⟩ : ∃ d, sx.ops.length = d := ⟨_, rfl⟩
              rw [hd] at hcell hops
              have hdd : ((d : Int) != (d : Int)) = false := by simp
              have HDD := Lib.hid hd
              have hbl : bh < w11.heap.size := World.block_lt_of_cell? w11 _ hcell
              clear hw11 ho11 hM11 hpc hHi hHi2 hd
              refine cP.mono ?_
              rintro e w12 ⟨rfl, rfl⟩
              clear cP
              go_wp2_with fail
              go_cut [87] (fun s87 wx => s87 = .bool false ∧ Only Nil w11 wx)
              case first =>
                have hcellD : w11.drew.cell? ⟨bh, oh + i, none⟩ = some (.int .i64 (d : Nat)) := hcell
                have cO := fun (w' : World) (ho : Only Nil w11 w') => operandsS_any mb wb L' sx _ _ _ _ _ w' (HM11.out.quiet ho) HOK.out.nops
                rw [HDD.out] at cO
                go_region_held3 (fun w' => w'.cell? ⟨bh, oh + i, none⟩ = some (.int .i64 (d : Nat))) (go_keep) (first
                  | (go_at_call 30; refine (cO _ (Only.refl _ _).drew).mono ?_; rintro e w13 ⟨v13, rfl, hown13, ho13⟩; obtain ⟨a13, c13, rfl⟩ := sl_of_own hown13; have hcell13 := ho13.cell hcellD (fun h => h)))
                all_goals
                  go_wp2_with fail
                  go_meet
                all_goals exact ⟨rfl, (Only.refl Nil w11).drew.trans ho13 (fun _ _ h => h)⟩
              case rest =>
                obtain ⟨rfl, hoC⟩ := hcut
                have cS := stepS_any mb wb L' HI.out sx _ _ _ _ _ wc (HM11.out.quiet hoC) HOK.out (by omega)
                rw [HFIN.out, show ((0 : Nat) == 0) = true from rfl] at cS
                have HOC := Lib.hid (HO11.out.trans hoC (fun _ _ h => h))
                clear hoC hcell
                go_wp2_with fail
                refine cS.mono ?_
                rintro e w14 ⟨sv14, kv14, iv14, ov14, rfl, hg14, hM14⟩
                clear cS
                have hk := sStep_k HOK.out HI.out (by rw [HN.out]; omega)
                have ho14 := HFR.out.only HOC.out hg14
                have hF14 := HFR.out.gone HOC.out.size hg14
                have hI14 := inv_step HCHK.out HCX.out HOK.out.nops HINV.out
                have HK := Lib.hid hk
                have HM14 := Lib.hid hM14
                have HO14 := Lib.hid ho14
                have HF14 := Lib.hid hF14
                have HI14 := Lib.hid hI14
                clear hk hM14 ho14 hF14 hI14 hg14
                go_wp2_with fail
                go_roundg (g - 1)
                case measure => have := HR.out; omega
                case rel => exact ⟨by omega, by have := HR.out; go_num, HO14.out, _, _, _, _, _, HK.out.ok, HI14.out, by have := HK.out.out; have := HR.out; omega, HM14.out, HF14.out⟩
            · have hfb : (((sx.fin : Nat) : Int) != 0) = true := by simp; omega
              obtain ⟨f, hff⟩ : ∃ f : Int, ((sx.fin : Nat) : Int) = f := ⟨_, rfl⟩
              rw [hff] at hfb ⊢
              have HO10 := Lib.hid ho10
              clear hown10 ho10 hfin hff
              go_wp2_with fail
              go_ret
              exact ⟨by simp, ((HOW.out.trans HO9.out (fun _ _ h => h)).trans HO10.out (fun _ _ h => h)).alloc _⟩
          · have hrx2 : r = x := by omega
            have r0 : ¬ ((r : Int) < (x : Int)) := by omega
            have HO9 := Lib.hid ho9
            clear hok hinv hM hFr ho9
            go_wp2_with fail
            go_ret
            exact ⟨by simp, HOW.out.trans HO9.out (fun _ _ h => h)⟩
end Go.Proofs.Ytbgmdckfkfkglaa
