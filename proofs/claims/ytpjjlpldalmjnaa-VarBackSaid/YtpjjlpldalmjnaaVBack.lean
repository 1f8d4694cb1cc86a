/- The walk of the law VarBack. -/
import Derived.Test.YtpjjlpldalmjnaaVKnown
import Derived.Deep.RegionHeld
namespace Go.Proofs.Ytpjjlpldalmjnaa
open Go.RowKit M

theorem IsRow.row {w : World} {a : Option Addr} {len cap : Nat} {zs : List Int} (h : IsRow .u8 w a len cap zs) :
    ∃ B : List Nat, B.length = len ∧ Row w (.slice a len cap) B := by
  obtain ⟨b, B, h1, ⟨ao, cap', off, e, h2, h3, h4⟩, _, h6⟩ := h.bytes
  rw [List.length_map, h1] at e
  simp only [Value.slice.injEq] at e
  obtain ⟨rfl, _, rfl⟩ := e
  refine ⟨B, h1, b, a, cap, off, by rw [h1], ?_, ?_, fun h => h2 (by simpa using h), h3, h4, h6⟩
  · rcases h with ⟨rfl, rfl, rfl, rfl⟩ | ⟨x, rfl, hl, hm, _⟩
    · omega
    · omega
  · rcases h with ⟨rfl, rfl, rfl, rfl⟩ | ⟨x, rfl, hl, hm, _⟩
    · exact Nat.zero_le _
    · exact hm

/-- A slice up to its length alone: what may be appended to. -/
theorem Row.app {w : World} {ao : Option Addr} {n cap : Nat} {B : List Nat} (h : Row w (.slice ao n cap) B) : AppRow w w (.slice ao n n) B ∧ B.length = n := by
  obtain ⟨b, ao', cap', off, e, h2, h3, h4, h5, h6, h7⟩ := h
  simp only [Value.slice.injEq] at e
  obtain ⟨rfl, rfl, rfl⟩ := e
  refine ⟨?_, rfl⟩
  cases ao with
  | none =>
    have hn : B.length = 0 := by have := h5 rfl; omega
    have hB : B = [] := List.eq_nil_of_length_eq_zero hn
    subst hB
    exact app_nil w
  | some x =>
    refine Or.inr ⟨x, rfl, fun j u hj => ?_⟩
    have hjl : j < B.length := by have := (List.getElem?_eq_some_iff.1 hj).1; rwa [U8s_len] at this
    have ex := h4 (by omega)
    injection ex with ex
    subst ex
    rw [addr_add]
    exact h6 j u hj

theorem Row.caps {w : World} {ao : Option Addr} {n cap : Nat} {B : List Nat} (h : Row w (.slice ao n cap) B) : n ≤ cap ∧ cap ≤ maxLen := by
  obtain ⟨b, ao', cap', off, e, h2, h3, h4, h5, h6, h7⟩ := h
  simp only [Value.slice.injEq] at e
  obtain ⟨rfl, rfl, rfl⟩ := e
  exact ⟨h2, h3⟩

/-- A slice's tail. -/
theorem Row.tail {w : World} {g m cap : Nat} {C : List Nat} (h : Row w (.slice (some ⟨g, 0, none⟩) m cap) C) {n : Nat} (hn : n < m) :
    Src w g (.slice (some ⟨g, n, none⟩) (m - n) (cap - n)) (U8s (C.drop n)) := by
  obtain ⟨b, ao, cap', off, e, h2, h3, h4, h5, h6, h7⟩ := h
  simp only [Value.slice.injEq] at e
  obtain ⟨rfl, rfl, rfl⟩ := e
  have e2 := h4 (by omega)
  simp only [Option.some.injEq, Addr.mk.injEq, and_true] at e2
  obtain ⟨rfl, rfl⟩ := e2
  refine ⟨some ⟨g, n, none⟩, cap - n, n, by simp [U8s], fun _ => rfl, fun h => (by cases h), fun i u hi => ?_⟩
  have hd : (U8s C)[n + i]? = some u := by
    rw [← hi]; simp [U8s]
  have := h6 (n + i) u hd
  rw [Nat.zero_add] at this
  exact this

set_option maxRecDepth 10000 in
set_option maxHeartbeats 1600000 in
theorem back_any (ab am : Option Addr) (nb capb nm capm : Nat) (B M : List Nat) (v : Nat) (i : Int) (w : World)
    (hb : Row w (.slice ab nb capb) B) (hm : Row w (.slice am nm capm) M) (hBl : B.length = nb) (hMl : M.length = nm) (hv : v < 18446744073709551616) (hi1 : -9223372036854775808 ≤ i) (hi2 : i ≤ 9223372036854775807) :
    Calls Try.prog 3 #[.slice ab nb capb, .int .u64 v, .int .i64 i, .slice am nm capm] w fun e w' => e = .returned (.bool true) ∧ Only Nil w w' := by
  have HB := Lib.hid hb
  have HM := Lib.hid hm
  have HBL := Lib.hid hBl
  have HML := Lib.hid hMl
  clear hb hm hBl hMl
  by_cases h100 : 100 < nb
  · go_enter Try.func3, Try.ntmps3
    go_wp2_with (go_at_call 7; refine (known_any w).mono ?_; rintro e w1 ⟨rfl, ho1⟩)
    go_ret
    exact ⟨rfl, ho1⟩
  · have t100 : decide ((100 : Int) < (nb : Int)) = false := by simp; omega
    by_cases h101 : 100 < nm
    · go_enter Try.func3, Try.ntmps3
      go_wp2_with (go_at_call 7; refine (known_any w).mono ?_; rintro e w1 ⟨rfl, ho1⟩)
      go_ret
      exact ⟨rfl, ho1⟩
    · have t101 : decide ((100 : Int) < (nm : Int)) = false := by simp; omega
      obtain ⟨C, hC⟩ : ∃ C, B ++ putVar v = C := ⟨_, rfl⟩
      have hC8 : ∀ x ∈ C, x < 256 := by
        obtain ⟨_, _, _, _, _, _, _, _, _, _, h8⟩ := HB.out
        rw [← hC]; intro x hx
        rcases List.mem_append.1 hx with hx | hx
        · exact h8 x hx
        · exact putVar_lt v x hx
      have hL10 := putVar_len v hv
      have hLp := putVar_pos v
      have hdrop : C.drop nb = putVar v := by rw [← hC]; exact List.drop_left' HBL.out
      have hlen : C.length = nb + (putVar v).length := by rw [← hC, List.length_append, HBL.out]
      have r1 := readV_put v M hv
      obtain ⟨V, hV⟩ : ∃ V, putVar v = V := ⟨_, rfl⟩
      rw [hV] at hL10 hLp hdrop hlen r1
      obtain ⟨L, hL⟩ : ∃ L, V.length = L := ⟨_, rfl⟩
      rw [hL] at hL10 hLp hlen r1
      have hC0 := hC
      have HC := Lib.hid hC
      have HC8 := Lib.hid hC8
      have HDROP := Lib.hid hdrop
      have HLEN := Lib.hid hlen
      have R1 := Lib.hid r1
      have HV := Lib.hid hV
      have HL := Lib.hid hL
      clear hC hC8 hdrop hlen r1 hV hL hC0
      go_enter Try.func3, Try.ntmps3
      go_wp2_with (go_at_call 7; refine (known_any w).mono ?_; rintro e w1 ⟨rfl, ho1⟩)
      have hb1 := HB.out.kept ho1
      obtain ⟨bb, hsb1⟩ := hb1.src
      have hput := put_any bb _ B v w1 hsb1 hv (by rw [HBL.out]; omega)
      rw [HC.out] at hput
      clear hb1 hsb1
      go_wp2_with fail
      refine hput.mono ?_
      rintro e w2 ⟨sc, rfl, hown2, ho2⟩
      have ho12 := ho1.trans ho2 (fun _ _ h => h)
      rw [U8s_len, HLEN.out] at hown2
      obtain ⟨gc, capc, rfl, _, hcc1, hcc2, _⟩ := ownsRow_shape hown2 (by omega)
      have hrc := Row.of_own hown2 HC8.out
      clear hput hown2 ho1 ho2
      go_upto_region 6 with fail
      go_cut [41] (fun s41 wx => s41 = .bool false ∧ Only Nil w2 wx)
      case first =>
        have hbd : Row w2.drew (.slice ab nb capb) B := HB.out.kept ho12.drew
        have happ := hbd.app.1
        have hpv := putVar_any _ B v w2.drew happ hv (by rw [HBL.out]; omega)
        rw [HC.out] at hpv
        obtain ⟨bc, hsc⟩ := hrc.src
        have hscd : Src w2.drew bc _ (U8s C) := hsc
        have hcv := conv_src w2.drew bc _ C hscd
        obtain ⟨hbc1, hbc2⟩ := hbd.caps
        unfold maxLen at hbc2
        clear happ hbd
        cases ab
        all_goals
          go_region_with (first
            | (go_at_call 9; refine hpv.mono ?_; rintro e w6 ⟨sv6, rfl, hown6, ho6⟩; have hcv6 := conv_src w6 _ sv6 C (Src.of_own hown6); have hcvc := conv_src w6 bc _ C (hscd.kept ho6 (fun _ h => h))))
        all_goals (go_wp2_with fail; go_meet)
        all_goals exact ⟨rfl, ((Only.refl Nil w2).drew).trans ho6 (fun _ _ h => h)⟩
      case rest =>
        obtain ⟨rfl, ho⟩ := hcut
        have hrcw := hrc.kept ho
        have honly := ho12.trans ho (fun _ _ h => h)
        clear hrc ho ho12
        obtain ⟨i0, hi, hz0, hz1, hz2⟩ := info_parts Try.info5
        unfold maxLen at hcc2
        have hsv := hrcw.tail (n := nb) (by omega)
        rw [HDROP.out, show nb + L - nb = L by omega] at hsv
        have hM1 := HM.out.kept honly
        obtain ⟨bm, hsm⟩ := hM1.src
        have hsz := honly.size
        go_wp2_with (at_builtin; refine wpList_append_src rfl _ _ 22 rfl w.heap.size 5 i0 (.int .u8 0) 1 Try.underlying22 hi hz0 hz1 hz2 rfl _ _ _ rfl (World.ownsRow_nil _ _ _ _) gc _ (U8s V) rfl hsv (U8s_one _) ?c1 ?c2 ?c3 ?_)
        case c1 => rw [U8s_len, HL.out]; simp [maxLen]; omega
        case c2 => rw [U8s_len, HL.out]; omega
        case c3 => omega
        intro v4 w4 hown4 hv4 ho4
        have honly4 := honly.trans (ho4.mono (T := Nil) (fun k h => by cases h)) (fun _ _ h => h)
        have hsm4 := hsm.kept (ho4.mono (T := Nil) (fun k h => by cases h)) (fun _ h => h)
        have hrc4 := hrcw.kept (ho4.mono (T := Nil) (fun k h => by cases h))
        rw [U8s_len, HL.out] at hown4
        have hsz4 := honly4.size
        clear hsv hM1 hsm hsz hv4 ho4 honly hrcw
        go_wp2_with (at_builtin; refine wpList_append_src rfl _ _ 22 rfl w.heap.size 5 i0 (.int .u8 0) 1 Try.underlying22 hi hz0 hz1 hz2 rfl _ _ _ rfl hown4 bm _ (U8s M) rfl hsm4 (U8s_one _) ?c4 ?c5 ?c6 ?_)
        case c4 => rw [U8s_len, HML.out]; simp [maxLen]; omega
        case c5 => rw [U8s_len, HML.out]; omega
        case c6 => omega
        intro v5 w5 hown5 hv5 ho5
        have honly5 : Only Nil w w5 := honly4.nil_own hown4 ho5
        rw [U8s_len, HML.out, ← U8s_append] at hown5
        have hM8 : ∀ x ∈ M, x < 256 := by
          obtain ⟨_, _, _, _, _, _, _, _, _, _, h8⟩ := HM.out
          exact h8
        have hr5 := Row.of_own hown5 (fun x hx => by
          rcases List.mem_append.1 hx with hx | hx
          · exact putVar_lt v x (by rw [HV.out]; exact hx)
          · exact hM8 x hx)
        have hread := read_val v5 _ w5 hr5 v L true R1.out
        have HM8 := Lib.hid hM8
        clear hrc4 hv5 ho5 hown4 hown5 hsm4 honly4 hsz4 hr5 hM8
        go_wp2_with fail
        refine hread.mono ?_
        rintro e w6 ⟨rfl, rfl⟩
        clear hread
        have hzl := zig_lt i hi1 hi2
        have hputi := putInt_nil i w5 hi1 hi2
        have hD8 := putVar_lt (zig i)
        have hr2 := readV_put (zig i) M hzl
        have hK10 := putVar_len (zig i) hzl
        have hKp := putVar_pos (zig i)
        obtain ⟨Z, hZ⟩ : ∃ Z, zig i = Z := ⟨_, rfl⟩
        have hzz : zag Z = i := by rw [← hZ]; exact zag_zig i
        have hzig := fun w => zig_any i w hi1 hi2
        rw [hZ] at hzl hputi hD8 hr2 hK10 hKp
        simp only [hZ] at hzig
        obtain ⟨D, hD⟩ : ∃ D, putVar Z = D := ⟨_, rfl⟩
        have hpvZ := fun w => putVar_nil Z w hzl
        simp only [hD] at hputi hD8 hr2 hK10 hKp hpvZ
        obtain ⟨K, hK⟩ : ∃ K, D.length = K := ⟨_, rfl⟩
        rw [hK] at hr2 hK10 hKp
        have HKK := Lib.hid hK
        have R2 := Lib.hid hr2
        have HD8 := Lib.hid hD8
        have HZZ := Lib.hid hzz
        clear hZ hD hK hr2 hD8 hzz
        go_wp2_with fail
        refine hputi.mono ?_
        rintro e w6 ⟨sd, rfl, hown6, ho6⟩
        rw [U8s_len, HKK.out] at hown6
        obtain ⟨gd, capd, rfl, _, _, _, _⟩ := ownsRow_shape hown6 hKp
        have honly6 := honly5.trans ho6 (fun _ _ h => h)
        have hrd := Row.of_own hown6 HD8.out
        have hrd2 := Row.of_own hown6 HD8.out
        obtain ⟨bd, hsd⟩ := hrd.src
        obtain ⟨bm, hsm⟩ := (HM.out.kept honly6).src
        have hsz6 := honly6.size
        clear hputi hown6 ho6 honly5
        go_wp2_with (at_builtin; refine wpList_append_src rfl _ _ 22 rfl w6.heap.size 5 i0 (.int .u8 0) 1 Try.underlying22 hi hz0 hz1 hz2 rfl _ _ _ rfl (World.ownsRow_nil _ _ _ _) bd _ (U8s D) rfl hsd (U8s_one _) ?c7 ?c8 ?c9 ?_)
        case c7 => rw [U8s_len, HKK.out]; simp [maxLen]; omega
        case c8 => rw [U8s_len, HKK.out]; omega
        case c9 => omega
        intro v7 w7 hown7 hv7 ho7
        have honly7 := ho7.mono (T := Nil) (fun k h => by cases h)
        have hsm7 := hsm.kept (ho7.mono (T := Nil) (fun k h => by cases h)) (fun _ h => h)
        rw [U8s_len, HKK.out] at hown7
        have hsz7 := honly7.size
        clear hsd hsm hsz6 hv7 ho7 hrd
        go_wp2_with (at_builtin; refine wpList_append_src rfl _ _ 22 rfl w6.heap.size 5 i0 (.int .u8 0) 1 Try.underlying22 hi hz0 hz1 hz2 rfl _ _ _ rfl hown7 bm _ (U8s M) rfl hsm7 (U8s_one _) ?d1 ?d2 ?d3 ?_)
        case d1 => rw [U8s_len, HML.out]; simp [maxLen]; omega
        case d2 => rw [U8s_len, HML.out]; omega
        case d3 => omega
        intro v8 w8 hown8 hv8 ho8
        have ho68 : Only Nil w6 w8 := honly7.nil_own hown7 ho8
        have honly8 := honly6.trans ho68 (fun _ _ h => h)
        have hrd8 := hrd2.kept ho68
        rw [U8s_len, HML.out, ← U8s_append] at hown8
        have hr8 := Row.of_own hown8 (fun x hx => by
          rcases List.mem_append.1 hx with hx | hx
          · exact HD8.out x hx
          · exact HM8.out x hx)
        have hread := readInt_val v8 _ w8 hr8 Z K true R2.out
        rw [HZZ.out] at hread
        clear hv8 ho8 hown7 hown8 hsm7 honly7 hsz7 hr8 hrd2 ho68 honly6
        go_wp2_with fail
        refine hread.mono ?_
        rintro e w9 ⟨rfl, rfl⟩
        clear hread
        go_upto_region 11 with fail
        obtain ⟨bd, hsd⟩ := hrd8.src
        have hsdd : Src w8.drew bd _ (U8s D) := hsd
        have honlyd : Only Nil w w8.drew := honly8.drew
        have hpvd := hpvZ w8.drew
        have hzigd := hzig w8.drew
        have hcv := conv_src w8.drew bd _ D hsdd
        have hdif : IntKind.i64.wrap ((nb : Int) + (L : Int) - (nb : Int)) = (L : Int) := by
          rw [IntKind.wrap_i64]; omega
        clear hpvZ hzig hrd8 hsd honly8
        go_region_held (fun w' => (convert 22 9 (.slice (some ⟨gd, 0, none⟩) K capd)).run Try.prog w' = .ok (.string (strOf D)) w') (go_keep) (first
          | (go_at_call 13; refine hzigd.mono ?_; rintro e w9 ⟨rfl, rfl⟩)
          | (go_at_call 9; refine hpvd.mono ?_; rintro e w10 ⟨sv6, rfl, hown6, ho6⟩; have hcv6 := conv_src w10 _ sv6 D (Src.of_own hown6); have hcvc := conv_src w10 bd _ D (hsdd.kept ho6 (fun _ h => h))))
        all_goals (go_wp2_with fail; go_ret)
        all_goals exact ⟨rfl, honlyd.trans ho6 (fun _ _ h => h)⟩
end Go.Proofs.Ytpjjlpldalmjnaa
