/- Instructions that may be, made of any. -/
import Derived.Test.YtpnhjjihdcopnaaHLeaf
import Derived.Deep.CutBlock
import Derived.Deep.RegionLaw
import Derived.Handy
set_option linter.unusedSimpArgs false
set_option linter.unusedVariables false
namespace Go.Proofs.Ytpnhjjihdcopnaa
open Go.RowKit M

/-- A number of 32 bits. -/
def M.I32x (k : Int) : Prop := -2147483648 ≤ k ∧ k ≤ 2147483647
theorem Blk.pair {w : World} {b : Nat} {t : TypeId} {x0 x1 : Value} (h : Blk w b #[x0, x1] t) (y0 y1 : Value) : Blk ((w.setCell ⟨b, 0, none⟩ y0).setCell ⟨b, 1, none⟩ y1) b #[y0, y1] t := by
  have h1 := (h.setCell 0 y0).setCell 1 y1
  simp only [List.setIfInBounds_toArray, List.set_cons_zero, List.set_cons_succ] at h1
  exact h1
/-- Place: a number from 0 to n - 1. -/
theorem placeH_any (k n : Int) (hn : 1 ≤ n) (hn2 : n ≤ 1000000) : ∃ p : Nat, (p : Int) < n ∧ ∀ w,
    Calls Try.prog 24 #[.int .i64 k, .int .i64 n] w fun e w' => e = .returned (.int .i64 p) ∧ w = w' := by
  have h1 := Int.lt_tmod_of_pos k (show (0 : Int) < n by omega)
  have h2 := Int.tmod_lt_of_pos k (show (0 : Int) < n by omega)
  obtain ⟨t, ht⟩ : ∃ t, k.tmod n = t := ⟨_, rfl⟩
  rw [ht] at h1 h2
  have hw : IntKind.i64.wrap t = t := by rw [IntKind.wrap_i64]; omega
  have hne : (n == 0) = false := not_beq (by omega)
  by_cases h0 : t < 0
  · obtain ⟨p, hp⟩ : ∃ p : Nat, t + n = p := ⟨(t + n).toNat, by omega⟩
    refine ⟨p, by omega, fun w => ?_⟩
    go_enter Try.func24, Try.ntmps24
    go_wp2
    go_ret
    exact ⟨by first | rfl | (rw [← hp]; rfl) | (rw [← hp, hw]; rfl), rfl⟩
  · obtain ⟨p, hp⟩ : ∃ p : Nat, t = p := ⟨t.toNat, by omega⟩
    refine ⟨p, by omega, fun w => ?_⟩
    go_enter Try.func24, Try.ntmps24
    go_wp2
    go_ret
    exact ⟨by first | rfl | (rw [← hp]; rfl) | (rw [← hp, hw]; rfl), rfl⟩

set_option maxRecDepth 20000 in
set_option maxHeartbeats 6400000 in
theorem made_any (b : Nat) (ao : Option Addr) (n cap : Nat) (L : List Cod) (w : World) (hs : CSrc w b (.slice ao n cap) L) (hn : L.length = n) (hf : ∀ c ∈ L, c.Fits) (hl : n ≤ 60) :
    Calls Try.prog 8 #[.slice ao n cap] w fun e w' => ∃ v L', e = .returned v ∧ L'.length = n + 1 ∧ (∀ c ∈ L', c.Fits) ∧ w'.ownsRow w.heap.size 55 2 v L'.length (codCells L') ∧ Only Nil w w' := by
  obtain ⟨ao', cap', off, e, h2, h3, h4, h5⟩ := hs
  simp only [Value.slice.injEq] at e
  obtain ⟨rfl, hxx, rfl⟩ := e
  clear hxx
  rw [hn] at h2 h4
  have HN := Lib.hid hn
  have H4 := Lib.hid h4
  have H5 := Lib.hid h5
  have HF := Lib.hid hf
  unfold maxLen at h3
  clear hn h4 h5 hf
  obtain ⟨i0, hi0, hz0, hz1, hz2⟩ := info_parts Try.info55
  go_enter Try.func8, Try.ntmps8
  go_wp2_with fail
  go_loopg [3, 4] n (fun m s i wr => m ≤ n ∧ i = .int .i64 ((n - m : Nat) : Int) ∧ Only Nil w wr ∧ ∃ L', L'.length = n - m ∧ (∀ c ∈ L', c.Fits) ∧ wr.ownsRow w.heap.size 55 2 s L'.length (codCells L'))
  case atStart => exact ⟨Nat.le_refl _, by simp, Only.refl _ _, [], by simp, nofun, World.ownsRow_nil _ _ _ _⟩
  case round =>
    obtain ⟨hm, rfl, ho, L', hL', hF', hown⟩ := hrel
    obtain ⟨m, rfl⟩ : ∃ m, m = gk := ⟨gk, rfl⟩
    obtain ⟨k, hk⟩ : ∃ k, n - m = k := ⟨_, rfl⟩
    rw [hk] at hL' ⊢
    have hkn : k ≤ n := by omega
    have HK := Lib.hid hk
    have HL' := Lib.hid hL'
    have HF' := Lib.hid hF'
    rw [hL'] at hown
    clear hk hL' hF'
    obtain ⟨a3, c3, rfl⟩ : ∃ ao cap, u3 = .slice ao k cap := by
      rcases hown.2 with ⟨rfl, h0⟩ | ⟨g, cap, cur, rfl, _⟩
      · exact ⟨_, _, by rw [h0]⟩
      · exact ⟨_, _, rfl⟩
    by_cases hkl : k < n
    · have hkl2 : k < L.length := by rw [HN.out]; exact hkl
      have hat : L[k]? = some L[k] := List.getElem?_eq_getElem hkl2
      have hfit := HF.out _ (List.getElem_mem hkl2)
      obtain ⟨y, hy⟩ : ∃ y, L[k] = y := ⟨_, rfl⟩
      rw [hy] at hat hfit
      have hao := H4.out (by omega)
      subst hao
      obtain ⟨r0, r1⟩ := (H5.out.kept ho (fun h => h)) k y hat
      obtain ⟨op, kk⟩ := y
      obtain ⟨⟨f1, f2⟩, f3, f4⟩ := hfit
      simp only at r0 r1 f1 f2 f3 f4
      have k0 : (0 : Int) ≤ (k : Int) := Int.natCast_nonneg _
      have k1 : (k : Int) < (n : Int) := by omega
      have hlw : w.heap.size ≤ wr.heap.size := ho.size
      obtain ⟨p, hp, cP⟩ := placeH_any op 34 (by decide) (by decide)
      have hlb : b < wr.heap.size := World.block_lt_of_cell? wr _ r0
      have hxw := ho
      have HO := Lib.hid ho
      have HOWN := Lib.hid hown
      clear ho hxw
      clear hat hy hkl2 hown
      go_wp2_with fail
      go_cut [5] (fun s5 wx => ∃ (ib : Nat), s5 = .pointer (some ⟨ib, 0, none⟩) ∧ w.heap.size ≤ ib ∧ wr.heap.size ≤ ib ∧ Blk wx ib #[.int .i64 p, .int .i32 kk] 55 ∧ Only Nil w wx ∧ Only Nil wr wx)
      case first =>
        go_region_with (first | (go_at_call 24; refine (cP _).mono ?_; rintro e w6 ⟨rfl, rfl⟩))
        all_goals (go_wp2_with fail; go_meet)
        all_goals refine ⟨_, rfl, hlw, Nat.le_refl _, ?_, ?_, ?_⟩
        all_goals first
          | with_reducible exact (Blk.new wr _ _).drew
          | with_reducible exact Blk.new wr.drew _ _
          | with_reducible exact Blk.pair (Blk.new wr _ _).drew _ _
          | with_reducible exact Blk.pair (Blk.new wr.drew _ _) _ _
          | ((repeat with_reducible first | exact HO.out | exact Only.refl _ _ | refine Only.drew ?_ | refine Only.alloc ?_ _ | refine Only.setCell ?_ (fun h => absurd h (by simp only; omega)) _); done)
      case rest =>
        obtain ⟨ib, rfl, hib, hibr, hBi, hoi, hor⟩ := hcut
        have cH := fun w => hasK_any (p : Int) w
        obtain ⟨h, hh⟩ : ∃ h, hasK (p : Int) = h := ⟨_, rfl⟩
        rw [hh] at cH
        have c0 := hBi.cell 0
        have c1 := hBi.cell 1
        have z1 := hBi.free 1
        simp only [List.getElem?_toArray, List.getElem?_cons_zero, List.getElem?_cons_succ] at c0 c1
        have hli := hBi.lt
        have HB := Lib.hid hBi
        have HOI := Lib.hid hoi
        have HOR := Lib.hid hor
        have st : ∀ k', M.I32x k' → ∃ k'', M.I32x k'' ∧ Blk (wc.setCell ⟨ib, 1, none⟩ (.int .i32 k')) ib #[.int .i64 p, .int .i32 k''] 55 ∧ Only Nil w (wc.setCell ⟨ib, 1, none⟩ (.int .i32 k')) ∧ Only Nil wr (wc.setCell ⟨ib, 1, none⟩ (.int .i32 k')) := fun k' hk' => by
          have h1 := HB.out.setCell 1 (.int .i32 k')
          simp only [List.setIfInBounds_toArray, List.set_cons_zero, List.set_cons_succ] at h1
          exact ⟨k', hk', h1, HOI.out.setCell (fun h => absurd h (by simp only; omega)) _, HOR.out.setCell (fun h => absurd h (by simp only; omega)) _⟩
        have ST := Lib.hid st
        have kw : IntKind.i64.wrap kk = kk := by rw [IntKind.wrap_i64]; omega
        clear cP hBi hoi hor st r0 r1 hh
        go_upto_block 2 with fail
        go_cut [] (fun wx => ∃ k', M.I32x k' ∧ Blk wx ib #[.int .i64 p, .int .i32 k'] 55 ∧ Only Nil w wx ∧ Only Nil wr wx)
        case first =>
          cases h
          · go_wp2_with (go_at_call 30; refine (cH _).mono ?_; rintro e w6 ⟨rfl, rfl⟩)
            go_meet
            exact ST.out 0 (by unfold M.I32x; omega)
          · by_cases g1 : p = 25 ∨ p = 26 ∨ p = 27
            · obtain ⟨q, hq, cQ⟩ := placeH_any kk ((n : Int) + 1) (by omega) (by omega)
              have qw : IntKind.i32.wrap (q : Int) = (q : Int) := by rw [IntKind.wrap_i32]; omega
              by_cases h25 : p = 25
              · have n1 : ((p : Int) == 25) = true := by simp [h25]
                clear g1 h25
                go_wp2_with (first | (go_at_call 30; refine (cH _).mono ?_; rintro e w6 ⟨rfl, rfl⟩) | (go_at_call 24; refine (cQ _).mono ?_; rintro e w6 ⟨rfl, rfl⟩))
                go_meet
                exact ST.out _ (by unfold M.I32x; omega)
              · have n1 : ((p : Int) == 25) = false := not_beq (by omega)
                by_cases h26 : p = 26
                · have n2 : ((p : Int) == 26) = true := by simp [h26]
                  clear g1 h25 h26
                  go_wp2_with (first | (go_at_call 30; refine (cH _).mono ?_; rintro e w6 ⟨rfl, rfl⟩) | (go_at_call 24; refine (cQ _).mono ?_; rintro e w6 ⟨rfl, rfl⟩))
                  go_meet
                  exact ST.out _ (by unfold M.I32x; omega)
                · have n2 : ((p : Int) == 26) = false := not_beq (by omega)
                  have n3 : ((p : Int) == 27) = true := by simp; omega
                  clear g1 h25 h26
                  go_wp2_with (first | (go_at_call 30; refine (cH _).mono ?_; rintro e w6 ⟨rfl, rfl⟩) | (go_at_call 24; refine (cQ _).mono ?_; rintro e w6 ⟨rfl, rfl⟩))
                  go_meet
                  exact ST.out _ (by unfold M.I32x; omega)
            · have n1 : ((p : Int) == 25) = false := not_beq (by omega)
              have n2 : ((p : Int) == 26) = false := not_beq (by omega)
              have n3 : ((p : Int) == 27) = false := not_beq (by omega)
              by_cases g2 : p = 30
              · obtain ⟨q, hq, cQ⟩ := placeH_any kk 15 (by decide) (by decide)
                have qw : IntKind.i32.wrap ((q : Int) + 1) = (q : Int) + 1 := by rw [IntKind.wrap_i32]; omega
                have n4 : ((p : Int) == 30) = true := by simp [g2]
                clear g1 g2
                go_wp2_with (first | (go_at_call 30; refine (cH _).mono ?_; rintro e w6 ⟨rfl, rfl⟩) | (go_at_call 24; refine (cQ _).mono ?_; rintro e w6 ⟨rfl, rfl⟩))
                go_meet
                exact ST.out _ (by unfold M.I32x; omega)
              · have n4 : ((p : Int) == 30) = false := not_beq (by omega)
                by_cases g3 : p = 1
                · clear n1 n2 n3 n4 g1 g2
                  subst g3
                  go_wp2_with (go_at_call 30; refine (cH _).mono ?_; rintro e w6 ⟨rfl, rfl⟩)
                  go_meet
                  exact ⟨kk, by unfold M.I32x; omega, HB.out, HOI.out, HOR.out⟩
                · obtain ⟨q, hq, cQ⟩ := placeH_any kk 6 (by decide) (by decide)
                  have n5 : ((p : Int) != 1) = true := by simp; omega
                  have qw : IntKind.i32.wrap (q : Int) = (q : Int) := by rw [IntKind.wrap_i32]; omega
                  clear g1 g2 g3
                  go_wp2_with (first | (go_at_call 30; refine (cH _).mono ?_; rintro e w6 ⟨rfl, rfl⟩) | (go_at_call 24; refine (cQ _).mono ?_; rintro e w6 ⟨rfl, rfl⟩))
                  go_meet
                  exact ST.out _ (by unfold M.I32x; omega)
        case rest =>
          obtain ⟨k', hk', hB, hoi, hor⟩ := hcut
          have c0 := hB.cell 0
          have c1 := hB.cell 1
          simp only [List.getElem?_toArray, List.getElem?_cons_zero, List.getElem?_cons_succ] at c0 c1
          have hli := hB.lt
          have hown := ownsRow_only HOWN.out hor (fun _ _ h => h)
          have hsz := hoi.size
          have HK' := Lib.hid hk'
          clear hB HB HOI HOR ST hk' hor
          go_wp2_with (with_reducible refine wpList_append_two rfl _ _ 22 rfl w.heap.size 55 i0 (.agg #[.int .i64 0, .int .i32 0]) 16 Try.underlying22 hi0 hz0 hz1 hz2 rfl _ _ _ rfl hown (.int .i64 p) (.int .i32 k') rfl rfl rfl ?c1 ?c2 hsz ?_)
          case c1 => simp [maxLen]; omega
          case c2 => omega
          intro g9 cap9 w9 hown9 hc91 hc92 hg9 ho9
          have ho10 := hoi.nil_own hown ho9
          have H9 := Lib.hid hown9
          clear hown ho9 hown9 hg9
          go_wp2_with fail
          go_roundg (m - 1)
          case measure => have := HK.out; omega
          case rel =>
            rw [show n - (m - 1) = k + 1 by have := HK.out; omega]
            refine ⟨by omega, by have := HK.out; go_num, ho10, L' ++ [⟨p, k'⟩], by rw [List.length_append, HL'.out]; rfl, ?_, ?_⟩
            · intro c hc
              rcases List.mem_append.1 hc with hc | hc
              · exact HF'.out c hc
              · rw [List.mem_singleton.1 hc]
                have := HK'.out
                unfold M.I32x at this
                unfold Cod.Fits
                simp only
                omega
            · rw [List.length_append, List.length_singleton, HL'.out, codCells_append]
              exact H9.out
    · have hkl2 : k = n := by omega
      subst hkl2
      go_wp2_with (with_reducible refine wpList_append_two rfl _ _ 22 rfl w.heap.size 55 i0 (.agg #[.int .i64 0, .int .i32 0]) 16 Try.underlying22 hi0 hz0 hz1 hz2 rfl _ _ _ rfl hown (.int .i64 0) (.int .i32 0) rfl rfl rfl ?c1 ?c2 ho.size ?_)
      case c1 => simp [maxLen]; omega
      case c2 => omega
      intro g9 cap9 w9 hown9 hc91 hc92 hg9 ho9
      have ho10 := ho.nil_own hown ho9
      clear hown ho9
      go_wp2_with fail
      go_ret
      refine ⟨_, L' ++ [⟨0, 0⟩], rfl, by rw [List.length_append, HL'.out]; rfl, ?_, ?_, ho10⟩
      · intro c hc
        rcases List.mem_append.1 hc with hc | hc
        · exact HF'.out c hc
        · rw [List.mem_singleton.1 hc]; unfold Cod.Fits; decide
      · rw [List.length_append, List.length_singleton, HL'.out, codCells_append]
        exact hown9
end Go.Proofs.Ytpnhjjihdcopnaa
