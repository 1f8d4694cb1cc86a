/- The walk of the law CodeBack. -/
import Derived.Test.YtipdfgkemghmoaaDoorCKnown
import Derived.Test.YtipdfgkemghmoaaDoorCEncR
import Derived.Test.YtipdfgkemghmoaaDoorCCodes
import Derived.Deep.RegionWith
import Derived.Deep.DeepCutAuto
set_option linter.unusedSimpArgs false
set_option linter.unusedVariables false
namespace Go.Proofs.YtipdfgkemghmoaaDoor
open Go.RowKit M

theorem ownsRow_slice {w : World} {base : Nat} {e : TypeId} {size : Nat} {v : Value} {n : Nat} {xs : List Value} (h : w.ownsRow base e size v n xs) : ∃ ao m cap, v = .slice ao m cap := by
  rcases h.2 with ⟨rfl, _⟩ | ⟨g, cap, cur, rfl, _⟩
  · exact ⟨_, _, _, rfl⟩
  · exact ⟨_, _, _, rfl⟩

set_option maxRecDepth 20000 in
set_option maxHeartbeats 3200000 in
theorem back_any (bs : Nat) (s : Value) (L : List Cod) (w : World) (hs : CSrc w bs s L) (hf : ∀ c ∈ L, c.Fits) (hT : Tabs w) :
    Calls Tryd.prog 3 #[s] w fun e w' => e = .returned (.bool true) ∧ Only Nil w w' := by
  have cK := known_any w hT
  obtain ⟨i0, hi, hz0, hz1, hz2⟩ := info_parts Tryd.info26
  have HS := Lib.hid hs
  obtain ⟨n, hn⟩ : ∃ n, L.length = n := ⟨_, rfl⟩
  obtain ⟨ao, cap, off, rfl, h2, h3, h4, h5⟩ := hs
  rw [hn] at h2 h4 HS ⊢
  have HN := Lib.hid hn
  have H4 := Lib.hid h4
  have H5 := Lib.hid h5
  have HF := Lib.hid hf
  unfold maxLen at h3
  clear hn h4 h5 hf
  by_cases h60 : 60 < n
  · have h60' : (60 : Int) < (n : Int) := by omega
    clear HS HN H4 H5 HF hT
    go_enter Tryd.func3, Tryd.ntmps3
    go_wp2_with fail
    refine cK.mono ?_
    rintro e w1 ⟨rfl, ho1⟩
    clear cK
    go_wp2_with fail
    go_ret
    exact ⟨rfl, ho1⟩
  · have h60' : (n : Int) ≤ 60 := by omega
    clear hT
    go_enter Tryd.func3, Tryd.ntmps3
    go_wp2_with fail
    refine cK.mono ?_
    rintro e w1 ⟨rfl, ho1⟩
    clear cK
    go_wp2_with fail
    go_loopg [3, 4] n (fun m t i wr => ∃ G : List Cod, m ≤ n ∧ i = .int .i64 ((n - m : Nat) : Int) ∧ (∀ c ∈ G, c.Good ∧ c.Fits) ∧ G.length = n - m ∧ wr.ownsRow w.heap.size 26 2 t (n - m) (codCells G) ∧ Only Nil w wr)
    case atStart => exact ⟨[], Nat.le_refl _, by simp, nofun, by simp, by simpa [codCells] using World.ownsRow_nil _ _ _ _, ho1⟩
    case round =>
      clear ho1
      obtain ⟨G, hm, rfl, hgood, hGl, hown, ho⟩ := hrel
      obtain ⟨m, rfl⟩ : ∃ m, m = gk := ⟨gk, rfl⟩
      obtain ⟨k, hk⟩ : ∃ k, n - m = k := ⟨_, rfl⟩
      rw [hk] at hown hGl ⊢
      have hkn : k ≤ n := by omega
      have HK := Lib.hid hk
      have HG := Lib.hid hgood
      have HGL := Lib.hid hGl
      clear hk hgood hGl
      by_cases hkl : k < n
      · have hkl2 : k < L.length := by rw [HN.out]; exact hkl
        have hat : L[k]? = some L[k] := List.getElem?_eq_getElem hkl2
        have hfit := HF.out _ (List.getElem_mem hkl2)
        obtain ⟨y, hy⟩ : ∃ y, L[k] = y := ⟨_, rfl⟩
        rw [hy] at hat hfit
        have hao := H4.out (by omega)
        subst hao
        obtain ⟨r0, r1⟩ := (H5.out.kept ho (fun h => h)) k y hat
        obtain ⟨op, kk⟩ := y
        simp only at r0 r1
        have cP := fun w => place_any op w
        have hp34 := placeN_lt op
        obtain ⟨p, hp⟩ : ∃ p, placeN op = p := ⟨_, rfl⟩
        rw [hp] at cP hp34
        have cH := fun w => hasK_any (p : Int) w
        have hb2 := hfit.2
        simp only at hb2
        have k0 : (0 : Int) ≤ (k : Int) := Int.natCast_nonneg _
        have k1 : (k : Int) < (n : Int) := by omega
        have hsz := ho.size
        have hblt := World.block_lt_of_cell? wr _ r0
        simp only at hblt
        clear hat hy hkl2 hfit hp
        go_upto_region 9 with fail
        go_cut [5] (fun s5 w2 => ∃ bk, s5 = .pointer (some ⟨bk, 0, none⟩) ∧ Blk w2 bk #[.int .i64 p, .int .i32 kk] 26 ∧ Only Nil wr w2 ∧ wr.heap.size ≤ bk)
        case first =>
          go_wp2_with fail
          go_region_with (first | (go_at_call 7; refine (cP _).mono ?_; rintro e w' ⟨rfl, rfl⟩))
          all_goals (go_wp2_with fail; go_meet; exact ⟨_, rfl, (Blk.new wr #[.int .i64 p, .int .i32 kk] 26).drew, ((Only.refl Nil wr).alloc _).drew, Nat.le_refl _⟩)
        case rest =>
          obtain ⟨bk, rfl, hB, ho2, hbk⟩ := hcut
          have b0 := hB.cell 0
          have b1 := hB.cell 1
          have f1 := hB.free 1
          simp only [List.getElem?_toArray, List.getElem?_cons_zero, List.getElem?_cons_succ] at b0 b1
          have hBlt := hB.lt
          have hne : ∀ j, u3.ownBlock = some j → j ≠ bk := fun j hj => by have := (hown.lt j hj).2; omega
          have hown2 := ownsRow_only hown ho2 (fun _ _ h => h)
          have HO2 := Lib.hid (ho.trans ho2 (fun _ _ h => h))
          have hsz2 := HO2.out.size
          have HSR := Lib.hid hsz
          clear r0 r1 hblt hown ho ho2 hsz cP
          cases hh : hasK (p : Int)
          · rw [hh] at cH
            have hgG : ∀ c ∈ G ++ [⟨p, 0⟩], c.Good ∧ c.Fits := fun c hc => by
              rcases List.mem_append.1 hc with hc | hc
              · exact HG.out c hc
              · rw [List.mem_singleton.1 hc]
                refine ⟨⟨by simp, by simp only; omega, Or.inl rfl⟩, ⟨by simp only; omega, by simp only; omega⟩, by simp, by simp⟩
            have HGG := Lib.hid hgG
            have hown3 := ownsRow_set_other hown2 ⟨bk, 1, none⟩ (.int .i32 0) (fun h => hne bk h rfl)
            have ho3 : Only Nil w (wc.setCell ⟨bk, 1, none⟩ (.int .i32 0)) := HO2.out.setCell (fun h => absurd h (by have := HSR.out; simp only; omega)) _
            have HO3 := Lib.hid ho3
            clear ho3
            go_wp2_with fail
            refine (cH _).mono ?_
            rintro e w3 ⟨rfl, rfl⟩
            clear cH hgG hh
            have hl3 := hown3.1
            go_wp2_with (at_builtin; go_must (refine wpList_append_two rfl _ _ 22 rfl w.heap.size 26 i0 (.agg #[.int .i64 0, .int .i32 0]) 16 Tryd.underlying22 hi hz0 hz1 hz2 rfl _ _ _ rfl hown3 (.int .i64 p) (.int .i32 0) rfl rfl (by simp [Act.eval, Act.put]) ?c1 ?c2 ?c3 ?_))
            case c1 => simp [maxLen]; omega
            case c2 => omega
            case c3 => exact HO3.out.size
            intro g9 cap9 w9 hown9 hc91 hc92 hg9 ho9
            have ho10 : Only Nil w w9 := HO3.out.nil_own hown3 ho9
            clear hown3 hc91 hc92 hg9 ho9 b0 b1 f1 hB hBlt hown2
            go_wp2_with fail
            go_roundg (m - 1)
            case measure => have := HK.out; omega
            case rel =>
              refine ⟨G ++ [⟨p, 0⟩], by omega, by have := HK.out; go_num, HGG.out, ?_, ?_, ho10⟩
              · rw [List.length_append, List.length_singleton, HGL.out]; have := HK.out; omega
              · rw [show n - (m - 1) = k + 1 by have := HK.out; omega, codCells_append]; exact hown9
          · rw [hh] at cH
            have hgG : ∀ c ∈ G ++ [⟨p, kk⟩], c.Good ∧ c.Fits := fun c hc => by
              rcases List.mem_append.1 hc with hc | hc
              · exact HG.out c hc
              · rw [List.mem_singleton.1 hc]
                refine ⟨⟨by simp, by simp only; omega, Or.inr hh⟩, ⟨by simp only; omega, by simp only; omega⟩, hb2⟩
            have HGG := Lib.hid hgG
            have hown3 := hown2
            have HO3 := HO2
            go_wp2_with fail
            refine (cH _).mono ?_
            rintro e w3 ⟨rfl, rfl⟩
            clear cH hgG hh
            have hl3 := hown3.1
            go_wp2_with (at_builtin; go_must (refine wpList_append_two rfl _ _ 22 rfl w.heap.size 26 i0 (.agg #[.int .i64 0, .int .i32 0]) 16 Tryd.underlying22 hi hz0 hz1 hz2 rfl _ _ _ rfl hown3 (.int .i64 p) (.int .i32 kk) rfl rfl (by simp [Act.eval, Act.put]) ?c1 ?c2 ?c3 ?_))
            case c1 => simp [maxLen]; omega
            case c2 => omega
            case c3 => exact HO3.out.size
            intro g9 cap9 w9 hown9 hc91 hc92 hg9 ho9
            have ho10 : Only Nil w w9 := HO3.out.nil_own hown3 ho9
            clear hown3 hc91 hc92 hg9 ho9 b0 b1 f1 hB hBlt hown2
            go_wp2_with fail
            go_roundg (m - 1)
            case measure => have := HK.out; omega
            case rel =>
              refine ⟨G ++ [⟨p, kk⟩], by omega, by have := HK.out; go_num, HGG.out, ?_, ?_, ho10⟩
              · rw [List.length_append, List.length_singleton, HGL.out]; have := HK.out; omega
              · rw [show n - (m - 1) = k + 1 by have := HK.out; omega, codCells_append]; exact hown9
      · have hkl2 : k = n := by omega
        subst hkl2
        have hsl := HS.out.kept ho
        have hsg := CSrc.of_own hown
        have hGL : G.length = k := by rw [HGL.out]
        obtain ⟨a3, n3, cap3, hv3⟩ : ∃ a n c, u3 = .slice a n c := ownsRow_slice hown
        subst hv3
        have hn3 : n3 = k := by
          obtain ⟨ao', cap', off', e, _⟩ := hsg
          simp only [Value.slice.injEq] at e
          omega
        subst hn3
        clear hown HK
        go_wp2_with fail
        have hblk := Blk.new wr #[.slice ao n3 cap, .slice a3 n3 cap3] 22
        have ho6 : Only Nil wr (wr.alloc (.cells #[.slice ao n3 cap, .slice a3 n3 cap3] 22)) := (Only.refl _ _).alloc _
        obtain ⟨w6, hw6⟩ : ∃ w6, wr.alloc (.cells #[.slice ao n3 cap, .slice a3 n3 cap3] 22) = w6 := ⟨_, rfl⟩
        rw [hw6] at hblk ho6 ⊢
        obtain ⟨W, hW⟩ : ∃ W, wr.heap.size = W := ⟨_, rfl⟩
        rw [hW] at hblk ⊢
        have hcells : ∀ j, j < 2 → ∃ y b Y, w6.cell? ⟨W, j, none⟩ = some y ∧ CSrc w6 b y Y ∧ (∀ c ∈ Y, c.Fits) ∧ Y.length ≤ 60 := by
          intro j hj
          rw [hblk.cell j]
          match j, hj with
          | 0, _ => exact ⟨_, bs, L, rfl, hsl.kept ho6, HF.out, by rw [HN.out]; omega⟩
          | 1, _ => exact ⟨_, _, G, rfl, hsg.kept ho6, fun c hc => (HG.out c hc).2, by rw [hGL]; omega⟩
        have HC := Lib.hid hcells
        have HO6 := Lib.hid (ho.trans ho6 (fun _ _ h => h))
        clear hblk ho6 hw6 hW hcells hsl hsg ho HS HF H4 H5 HG HGL
        go_loopg [50] 2 (fun m i wx => m ≤ 2 ∧ i = .int .i64 ((2 - m : Nat) : Int) ∧ Only Nil w6 wx)
        case atStart => exact ⟨Nat.le_refl _, by simp, Only.refl _ _⟩
        case round =>
          obtain ⟨hm, rfl, ho⟩ := hrel
          obtain ⟨m, rfl⟩ : ∃ m, m = gk := ⟨gk, rfl⟩
          obtain ⟨j, hj⟩ : ∃ j, 2 - m = j := ⟨_, rfl⟩
          rw [hj]
          have HJ := Lib.hid hj
          have hj2 : j ≤ 2 := by omega
          clear hj
          by_cases hjl : j < 2
          · obtain ⟨y, bY, Y, hy0, hsY, hfY, hlY⟩ := HC.out j hjl
            have hy := ho.cell hy0 (fun h => h)
            have hsY1 := hsY.kept ho
            have hyv : ∃ a l c, y = .slice a l c := by
              obtain ⟨ao', cap', off', e, _⟩ := hsY
              exact ⟨_, _, _, e⟩
            obtain ⟨ya, yl, yc, rfl⟩ := hyv
            have cE := encI_any bY _ Y wr hsY1 hfY (by omega)
            have cF := fun (w' : World) (ho : Only Nil wr w') => encR_any bY _ Y w' (hsY1.kept ho) hfY (by omega)
            have HSY := Lib.hid hsY1
            have HFY := Lib.hid hfY
            have j0 : (0 : Int) ≤ (j : Int) := Int.natCast_nonneg _
            have j1 : (j : Int) < 2 := by omega
            have HO := Lib.hid ho
            clear hsY hsY1 hfY hy0 ho
            go_wp2_with fail
            refine cE.mono ?_
            rintro e w7 ⟨h7, ho7⟩
            clear cE
            have cF7 := cF w7 ho7
            clear cF hy
            have HO7 := Lib.hid ho7
            clear ho7
            by_cases hgood : ∀ c ∈ Y, c.Good
            · rcases h7 with ⟨_, sb, rfl, hown7⟩ | ⟨hb, _⟩
              rotate_left
              · exact absurd hgood hb
              unfold EncOk at hown7
              have hb8 := encL_lt Y hgood
              have hble := encL_le Y HFY.out (by omega)
              have hrow7 := Row.of_own hown7 hb8
              have hdec := decL_encL Y hgood HFY.out (by omega)
              have hbl : (encL Y).length ≤ 10000 := by omega
              have hlp := encL_pos Y
              obtain ⟨lb, hlb⟩ : ∃ l, (encL Y).length = l := ⟨_, rfl⟩
              rw [hlb] at hown7 hble hlp
              have hsbv := ownsRow_shape hown7 hlp
              obtain ⟨gb, capb, rfl, _, _, _, _⟩ := hsbv
              have HR7 := Lib.hid hrow7
              have hgood2 := hgood
              have HGOOD := Lib.hid hgood
              have HLB := Lib.hid hlb
              clear hown7 hgood hb8 hrow7 hlb
              go_wp2_with fail
              refine cF7.mono ?_
              rintro e w8 ⟨h8, ho8⟩
              clear cF7
              rcases h8 with ⟨_, sc, rfl, hown8⟩ | ⟨hb, _⟩
              rotate_left
              · exact absurd hgood2 hb
              clear hgood2
              unfold EncOk at hown8
              rw [HLB.out] at hown8
              obtain ⟨gc, capc, rfl, _, _, _, _⟩ := ownsRow_shape hown8 hlp
              have hrow8 := Row.of_own hown8 (encL_lt Y HGOOD.out)
              obtain ⟨bb, hsb⟩ := (HR7.out.kept ho8).src
              obtain ⟨bc, hsc⟩ := hrow8.src
              have hcv1 := conv_src w8 _ _ _ hsb
              have hcv2 := conv_src w8 _ _ _ hsc
              have cD := decI_any _ (encL Y) w8 (HR7.out.kept ho8) hbl
              rw [hdec] at cD
              obtain ⟨S, hS⟩ : ∃ S, strOf (encL Y) = S := ⟨_, rfl⟩
              rw [hS] at hcv1 hcv2
              have HO8 := Lib.hid ho8
              clear hS hsb hsc hrow8 hown8 ho8 hdec HGOOD
              have eE : decErr (some Y) = 0 := rfl
              rw [eE] at cD
              go_wp2_with fail
              refine cD.mono ?_
              rintro e w9 ⟨sl, rfl, hown9, ho9⟩
              clear cD hcv1 hcv2
              have hsr := CSrc.of_own hown9
              have cC := codes_same bY _ _ sl Y w9 (((HSY.out.kept HO7.out).kept HO8.out).kept ho9) hsr (by omega)
              have ho10 := ((HO.out.trans HO7.out (fun _ _ h => h)).trans HO8.out (fun _ _ h => h)).trans ho9 (fun _ _ h => h)
              clear hown9 ho9 hsr
              go_wp2_with fail
              refine cC.mono ?_
              rintro e w10 ⟨rfl, ho11⟩
              have ho12 := ho10.trans ho11 (fun _ _ h => h)
              clear cC ho10 ho11
              go_wp2_with fail
              go_roundg (m - 1)
              case measure => have := HJ.out; omega
              case rel => exact ⟨by omega, by have := HJ.out; go_num, ho12⟩
            · rcases h7 with ⟨hb, _⟩ | ⟨_, rfl⟩
              · exact absurd hb hgood
              go_wp2_with fail
              refine cF7.mono ?_
              rintro e w8 ⟨h8, ho8⟩
              clear cF7
              rcases h8 with ⟨hb, _⟩ | ⟨_, rfl⟩
              · exact absurd hb hgood
              have ho9 := (HO.out.trans HO7.out (fun _ _ h => h)).trans ho8 (fun _ _ h => h)
              clear hgood ho8
              go_wp2_with fail
              go_roundg (m - 1)
              case measure => have := HJ.out; omega
              case rel => exact ⟨by omega, by have := HJ.out; go_num, ho9⟩
          · have hj3 : j = 2 := by omega
            subst hj3
            clear HC
            go_wp2_with fail
            go_ret
            exact ⟨rfl, HO6.out.trans ho (fun _ _ h => h)⟩
end Go.Proofs.YtipdfgkemghmoaaDoor
