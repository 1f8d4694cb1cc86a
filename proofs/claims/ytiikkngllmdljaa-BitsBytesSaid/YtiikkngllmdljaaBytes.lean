/- The walk of the law BitsBytes. -/
import Derived.Test.YtiikkngllmdljaaKnown
import Derived.Test.YtiikkngllmdljaaRowIn
import Derived.Test.YtiikkngllmdljaaBytesM
import Derived.Deep.RegionWith
namespace Go.Proofs.Ytiikkngllmdljaa
open Go.RowKit M

set_option maxRecDepth 10000 in
set_option maxHeartbeats 800000 in
theorem bytesLaw_any (bb nb capb : Nat) (ab : Option Addr) (B : List Nat) (n : Nat) (w : World)
    (hBl : B.length = nb) (hB : Src w bb (.slice ab nb capb) (U8s B)) (hB8 : ∀ x ∈ B, x < 256) (hn : n < 256) :
    Calls Try.prog 6 #[.slice ab nb capb, .int .u8 n] w fun e w' => e = .returned (.bool true) ∧ Only Nil w w' := by
  have HBL := Lib.hid hBl
  have HB8 := Lib.hid hB8
  have HB := Lib.hid hB
  clear hBl hB8 hB
  by_cases h60 : 60 < nb
  · go_enter Try.func6, Try.ntmps6
    go_wp2_with (go_at_call 7; refine (known_any w).mono ?_; rintro e w1 ⟨rfl, ho1⟩)
    go_ret
    exact ⟨rfl, ho1⟩
  · have t60 : decide ((60 : Int) < (nb : Int)) = false := by simp; omega
    go_enter Try.func6, Try.ntmps6
    go_wp2_with (go_at_call 7; refine (known_any w).mono ?_; rintro e w1 ⟨rfl, ho1⟩)
    refine (newWriter_any w1).mono ?_
    rintro e w2 ⟨rfl, hw2⟩
    have hW2 : WRep w2 w1.heap.size [] none := by rw [hw2]; exact WRep.new w1
    have honly2 : Only Nil w w2 := by rw [hw2]; exact ho1.alloc _
    have hwb : w.heap.size ≤ w1.heap.size := ho1.size
    obtain ⟨wb, hwbe⟩ : ∃ wb, w1.heap.size = wb := ⟨_, rfl⟩
    rw [hwbe] at hW2 hwb ⊢
    clear hwbe hw2 ho1
    obtain ⟨k, hk⟩ : ∃ k, n % 8 = k := ⟨_, rfl⟩
    have hk8 : k < 8 := by omega
    have HK := Lib.hid hk
    clear hk
    go_upto_region 6 with fail
    go_cut [6] (fun s6 wx => s6 = .int .i64 (k : Int) ∧ w2 = wx)
    case first =>
      go_wp2_with fail
      go_meet
      exact ⟨by congr 1; have := HK.out; omega, rfl⟩
    case rest =>
      obtain ⟨rfl, rfl⟩ := hcut
      go_wp2_with fail
      refine (put_any 0 k wb [] none w2 (by omega) (by omega) hW2 (by simp)).mono ?_
      rintro e w3 ⟨rfl, r3, hW3, hr3, ho3⟩
      have hst : ∃ r, WRep w3 wb (bitsOf 0 k ++ unpack (B.take 0)) r ∧ (∀ x, r = some x → w.heap.size ≤ x) ∧ Only Nil w w3 := by
        refine ⟨r3, by simpa [unpack] using hW3, fun x hx => ?_, honly2.trans ho3 (fun i hi h => ?_)⟩
        · have := honly2.size
          rcases hr3 with h | ⟨k2, h, h2⟩
          · rw [h] at hx; cases hx
          · rw [h] at hx; injection hx with hx; omega
        · rcases h with h | h
          · omega
          · cases h
      clear hW2 hW3 hr3 ho3 honly2
      go_wp2_with fail
      go_loopg [7] nb (fun g i wx => g ≤ nb ∧ i = .int .i64 ((nb - g : Nat) : Int) ∧ ∃ r, WRep wx wb (bitsOf 0 k ++ unpack (B.take (nb - g))) r ∧ (∀ x, r = some x → w.heap.size ≤ x) ∧ Only Nil w wx)
      case atStart => exact ⟨Nat.le_refl _, by simp, by rw [Nat.sub_self]; exact hst⟩
      case round =>
        clear hst
        obtain ⟨hg, rfl, r, hW, hr, honly⟩ := hrel
        obtain ⟨g, rfl⟩ : ∃ g, g = gk := ⟨gk, rfl⟩
        obtain ⟨j, hj⟩ : ∃ j, nb - g = j := ⟨_, rfl⟩
        rw [hj] at hW ⊢
        have hjk : j ≤ nb := by omega
        have HJ := Lib.hid hj
        have HR := Lib.hid hr
        clear hj hr
        obtain ⟨ao, cap, off, hse, hao, _, hcs⟩ := HB.out
        have hUl : (U8s B).length = nb := by simp [U8s]; exact HBL.out
        rw [hUl] at hse hao
        injection hse with e1 e2 e3
        subst e1 e3
        clear e2 hUl
        have HAO := Lib.hid hao
        have HCS := Lib.hid hcs
        clear hao hcs
        by_cases hjl : j < nb
        · have hjl2 : j < B.length := by rw [HBL.out]; exact hjl
          have hao := HAO.out (by omega)
          subst hao
          obtain ⟨x, hx⟩ : ∃ x, B[j] = x := ⟨_, rfl⟩
          have hx2 : B[j]? = some x := by rw [List.getElem?_eq_getElem hjl2, hx]
          have hx8 : x < 256 := HB8.out x (by rw [← hx]; exact List.getElem_mem _)
          have c0 := honly.cell (HCS.out j (.int .u8 x) (by simp [U8s, hx2])) (fun h => h)
          have hut := unpack_take B j x hx2
          have hor : bits BinOp.or IntKind.u64 (x : Int) 256 = ((x + 256 : Nat) : Int) := by
            have := bits_or_u64 x 256 (by omega) (by omega)
            rw [or_256 x hx8] at this
            exact this
          have hput := put_any (x + 256) 8 wb _ r wr (by omega) (by omega) hW (by simp; omega)
          rw [bits_more, List.append_assoc, ← hut] at hput
          have HUT := Lib.hid hut
          have hxi : ((x + 256 : Nat) : Int) = (x : Int) + 256 := by simp
          rw [hxi] at hput hor
          clear hx hx2 hut hW hxi
          go_wp2_with fail
          refine hput.mono ?_
          rintro e w4 ⟨rfl, r4, hW4, hr4, ho4⟩
          have hst : ∃ r, WRep w4 wb (bitsOf 0 k ++ unpack (B.take (j + 1))) r ∧ (∀ x, r = some x → w.heap.size ≤ x) ∧ Only Nil w w4 := by
            refine ⟨r4, hW4, fun x hx => ?_, honly.trans ho4 (fun i hi h => ?_)⟩
            · have := honly.size
              rcases hr4 with h | ⟨k2, h, h2⟩
              · rw [h] at hx; exact HR.out x hx
              · rw [h] at hx; injection hx with hx; omega
            · rcases h with h | h
              · omega
              · have := HR.out i h.symm; omega
          clear hput hW4 hr4 ho4 honly c0
          go_wp2_with fail
          go_roundg (g - 1)
          case measure => have := HJ.out; omega
          case rel =>
            refine ⟨by omega, by have := HJ.out; go_num, ?_⟩
            rw [show nb - (g - 1) = j + 1 by have := HJ.out; omega]
            exact hst
        · have hjn : j = nb := by omega
          have htb : B.take j = B := List.take_of_length_le (by rw [HBL.out]; omega)
          rw [htb] at hW
          subst hjn
          have hLl : (bitsOf 0 k ++ unpack B).length = k + 8 * j := by simp; have := HBL.out; omega
          obtain ⟨L, hL⟩ : ∃ L, bitsOf 0 k ++ unpack B = L := ⟨_, rfl⟩
          rw [hL] at hW hLl
          have HL := Lib.hid hL
          have HLL := Lib.hid hLl
          have hL1 : L.length ≤ 1000 := by omega
          have hWd : WRep wr.drew wb L r := hW
          have hbytes := bytes_rep wb L r wr.drew hWd (by omega)
          have hsrcd : Src wr.drew bb (.slice ab j capb) (U8s B) := HB.out.kept honly.drew (fun _ h => h)
          clear hL htb hLl
          go_upto_region 12 with fail
          go_cut [49] (fun s49 wx => s49 = .bool false ∧ Only Nil wr.drew wx)
          case first =>
            have hcvd := conv_src wr.drew _ _ B hsrcd
            by_cases hk0 : k = 0
            · subst hk0
              have hpk : pack L = B := by rw [← HL.out]; exact (by simpa [bitsOf] using pack_unpack B HB8.out)
              rw [hpk] at hbytes
              clear hpk
              go_region_with (first
                | (go_at_call 12; refine hbytes.mono ?_; rintro e w6 ⟨sv6, rfl, hown6, ho6⟩; have hcv6 := conv_src w6 _ sv6 B (Src.of_own hown6); have hcvb := conv_src w6 _ _ B (hsrcd.kept ho6 (fun _ h => h))))
              all_goals (go_wp2_with fail; go_meet)
              all_goals exact ⟨rfl, ho6⟩
            · have tk : ((k : Int) == 0) = false := by rw [beq_eq_false_iff_ne]; omega
              go_region
              all_goals (go_wp2_with fail; go_meet)
              all_goals exact ⟨rfl, Only.refl _ _⟩
          case rest =>
            obtain ⟨rfl, ho⟩ := hcut
            have honly0 : Only Nil w wc := honly.drew.trans ho (fun _ _ h => h)
            have hW0 := hWd.kept ho (fun h => h) (fun _ _ h => h)
            have hbytes0 := bytes_rep wb L r wc hW0 (by omega)
            clear hsrcd hbytes hWd honly ho hW
            go_wp2_with fail
            refine hbytes0.mono ?_
            rintro e w3 ⟨sv, rfl, hown3, ho3⟩
            go_wp2_with fail
            refine (newReader_any (sv.ownBlock.getD 0) sv (pack L) w3 (Src.of_own hown3) (by simp; omega)).mono ?_
            rintro e w4 ⟨a, r4, rfl, ha, hR4, hr4, ho4⟩
            have ho34 := ho3.trans ho4 (fun _ _ h => h)
            have hs3 := ho3.size
            have hs0 := honly0.size
            have hwl := hW0.lt
            have hwa : w.heap.size ≤ a := by omega
            have hW4 := hW0.kept ho34 (fun h => h) (fun _ _ h => h)
            have honly4 := honly0.trans ho34 (fun _ _ h => h)
            have hwba : wb ≠ a := by omega
            have hra : ∀ x, r = some x → x ≠ a := fun x hx => by have := hwl.2 x hx; omega
            have hget := get_any a 0 k (pack L) w4 hR4 (by have := HLL.out; simp; omega) (pack_lt L) (by omega) (by simp; omega)
            have hz := zeros_first k B
            rw [HL.out] at hz
            rw [hz, number_zeros, Nat.zero_add] at hget
            have hlen : ((L.length : Nat) : Int) = 8 * (j : Int) + (k : Int) := by have := HLL.out; omega
            clear hbytes0 hown3 ho3 ha hr4 ho4 ho34 hs3 hs0 hwl hz hR4 honly0 hW0
            go_wp2_with fail
            refine hget.mono ?_
            rintro e w5 ⟨rfl, hR5, ho5⟩
            have hW5 := hW4.kept ho5 (fun h => hwba h) (fun x hx h => hra x hx h)
            have honly5 : Only Nil w w5 := honly4.trans ho5 (fun i hi h => by have h1 : i = a := h; omega)
            have hlenc := len_rep wb L r w5 hW5
            rw [hlen] at hlenc
            have HLEN := Lib.hid hlen
            clear hget hW4 honly4 ho5 hlen hW5
            go_upto_region 16 with fail
            go_cut [74] (fun s74 wx => s74 = .bool false ∧ w5 = wx)
            case first =>
              go_wp2_with fail
              refine hlenc.mono ?_
              rintro e w6 ⟨rfl, rfl⟩
              go_wp2_with fail
              go_meet
              exact ⟨rfl, rfl⟩
            case rest =>
              obtain ⟨rfl, rfl⟩ := hcut
              clear hlenc
              go_wp2_with fail
              go_loopg [11] j (fun g i wx => g ≤ j ∧ i = .int .i64 ((j - g : Nat) : Int) ∧ RRep wx a (pack L) (k + 8 * (j - g)) r4 ∧ Only Nil w wx)
              case atStart => exact ⟨Nat.le_refl _, by simp, by simpa using hR5, honly5⟩
              case round =>
                clear hR5 honly5
                obtain ⟨hg2, rfl, hR, honly⟩ := hrel
                obtain ⟨g2, rfl⟩ : ∃ g, g = gk := ⟨gk, rfl⟩
                obtain ⟨i, hi⟩ : ∃ i, j - g2 = i := ⟨_, rfl⟩
                rw [hi] at hR ⊢
                have hij : i ≤ j := by omega
                have HI := Lib.hid hi
                clear hi
                by_cases hil : i < j
                · have hil2 : i < B.length := by rw [HBL.out]; exact hil
                  have hao := HAO.out (by omega)
                  subst hao
                  obtain ⟨x, hx⟩ : ∃ x, B[i] = x := ⟨_, rfl⟩
                  have hx2 : B[i]? = some x := by rw [List.getElem?_eq_getElem hil2, hx]
                  have hx8 : x < 256 := HB8.out x (by rw [← hx]; exact List.getElem_mem _)
                  have c0 := honly.cell (HCS.out i (.int .u8 x) (by simp [U8s, hx2])) (fun h => h)
                  have hget := get_any a (k + 8 * i) 8 (pack L) wr hR (by have := HLL.out; simp; omega) (pack_lt L) (by omega) (by simp; omega)
                  have hb := byte_behind k B i x hx2 hx8
                  rw [HL.out] at hb
                  rw [hb] at hget
                  have hbba : ¬ One a bb := fun h => by
                    have h1 : bb = a := h
                    have := HB.out.ofLt (by simp [U8s]; omega)
                    omega
                  have hxx : ((x : Int) != (x : Int)) = false := by simp
                  clear hx hx2 hb
                  go_wp2_with fail
                  refine hget.mono ?_
                  rintro e w6 ⟨rfl, hR6, ho6⟩
                  have c06 := ho6.cell c0 hbba
                  have honly6 : Only Nil w w6 := honly.trans ho6 (fun i hi h => by have h1 : i = a := h; omega)
                  clear hget c0 honly ho6 hR
                  go_wp2_with fail
                  go_roundg (g2 - 1)
                  case measure => have := HI.out; omega
                  case rel =>
                    refine ⟨by omega, by have := HI.out; go_num, ?_, honly6⟩
                    rw [show j - (g2 - 1) = i + 1 by have := HI.out; omega, show k + 8 * (i + 1) = k + 8 * i + 8 by omega]
                    exact hR6
                · have hin : i = j := by omega
                  subst hin
                  have hLL := HLL.out
                  rw [← hLL] at hR
                  have hrest : restB (pack L) L.length = true := by
                    unfold restB
                    rw [number_rest]
                    simp; omega
                  have hre := rest_any a L.length (pack L) wr hR (by simp; omega) (by simp; omega) (pack_lt L)
                  rw [hrest] at hre
                  clear hLL hrest hR
                  go_wp2_with fail
                  refine hre.mono ?_
                  rintro e w6 ⟨rfl, q, rfl⟩
                  go_wp2_with fail
                  go_ret
                  exact ⟨rfl, only_drewN honly q⟩
end Go.Proofs.Ytiikkngllmdljaa
