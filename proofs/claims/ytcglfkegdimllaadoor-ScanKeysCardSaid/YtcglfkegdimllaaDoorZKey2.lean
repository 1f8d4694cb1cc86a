/- The walk of the law ScanKeys. -/
import Derived.Test.YtcglfkegdimllaaDoorZLim
import Derived.Deep.RegionWith
import Derived.Deep.RegionHeld3
import Derived.Deep.RegionHeld
import Derived.Deep.DrawnRows
import Derived.Deep.QuietTactic
import Derived.BigQuiet
set_option linter.unusedSimpArgs false
set_option linter.unusedVariables false
namespace Go.Proofs.YtcglfkegdimllaaDoor
open Go.RowKit M

def chkKey (s t : ByteArray) : Bool :=
  match allS s, allS t with
  | .ok [x, _], .ok [y, _] => x.kind == 6 && ((y.kind == 6) == kwB t)
  | _, _ => false
theorem chkKey_of {s t : ByteArray} (h : chkKey s t = true) : ∃ x x2 y y2, allS s = .ok [x, x2] ∧ allS t = .ok [y, y2] ∧ x.kind = 6 ∧ ((y.kind == 6) = kwB t) := by
  unfold chkKey at h
  split at h
  · rename_i x x2 y y2 h1 h2
    simp only [Bool.and_eq_true, beq_iff_eq] at h
    exact ⟨x, x2, y, y2, h1, h2, h.1, h.2⟩
  · cases h
set_option maxRecDepth 100000 in
theorem keys_chk : ∀ k : Fin 33, (chkKey (kwL.getD k.val ByteArray.empty) (kwL.getD k.val ByteArray.empty ++ ⟨#[120]⟩) && chkKey (kwL.getD k.val ByteArray.empty) ((kwL.getD k.val ByteArray.empty).extract 0 ((kwL.getD k.val ByteArray.empty).size - 1)) && decide ((kwL.getD k.val ByteArray.empty).size ≤ 9) && decide (2 ≤ (kwL.getD k.val ByteArray.empty).size)) = true := by decide +kernel
theorem keys_of (m : Nat) (hm : m < 33) (cut : Bool) (z t : ByteArray) (hz : kwL.getD m ByteArray.empty = z) (ht : (if cut then z.extract 0 (z.size - 1) else z ++ ⟨#[120]⟩) = t) :
    ∃ x x2 y y2, allS z = .ok [x, x2] ∧ allS t = .ok [y, y2] ∧ x.kind = 6 ∧ ((y.kind == 6) = kwB t) ∧ z.size ≤ 9 ∧ 2 ≤ z.size ∧ t.size ≤ 10 := by
  have h := keys_chk ⟨m, hm⟩
  simp only [Bool.and_eq_true, decide_eq_true_eq, hz] at h
  obtain ⟨⟨⟨h1, h2⟩, h3⟩, h4⟩ := h
  subst ht
  cases cut
  · obtain ⟨x, x2, y, y2, a, b, c, d⟩ := chkKey_of h1
    exact ⟨x, x2, y, y2, a, b, c, d, h3, h4, by simp only [Bool.false_eq_true, if_false]; rw [ByteArray.size_append]; show z.size + 1 ≤ 10; omega⟩
  · obtain ⟨x, x2, y, y2, a, b, c, d⟩ := chkKey_of h2
    exact ⟨x, x2, y, y2, a, b, c, d, h3, h4, by simp only [if_true]; rw [to_size z _ (by omega)]; omega⟩

set_option maxRecDepth 10000 in
set_option maxHeartbeats 1600000 in
theorem keys_any (k c : Nat) (hk8 : k < 256) (hc8 : c < 256) (cut : Bool) (w : World) (hA : Asc w) :
    Calls Tryd.prog 8 #[.int .u8 k, .int .u8 c, .bool cut] w fun e w' => e = .returned (.bool true) ∧ Only Nil w w' := by
  have cK := known11 w hA
  obtain ⟨m, hm⟩ : ∃ m, k % 33 = m := ⟨_, rfl⟩
  have hm33 : m < 33 := by rw [← hm]; exact Nat.mod_lt _ (by decide)
  have e33 : (k : Int) % 33 = (m : Int) := by omega
  obtain ⟨z, hz⟩ : ∃ z, kwL.getD m ByteArray.empty = z := ⟨_, rfl⟩
  obtain ⟨t, ht⟩ : ∃ t, (if cut then z.extract 0 (z.size - 1) else z ++ ⟨#[120]⟩) = t := ⟨_, rfl⟩
  obtain ⟨x, x2, y, y2, hx, hy, hxk, hyk, hz9, hz2, ht9⟩ := keys_of m hm33 cut z t hz ht
  clear hm
  go_enter Tryd.func8, Tryd.ntmps8
  go_wp2_with fail
  refine cK.mono ?_
  rintro e w1 ⟨rfl, ho1⟩
  clear cK
  have hA1 := hA.kept ho1
  go_wp2_with fail
  refine (keywords_any w1 hA1).mono ?_
  rintro e w2 ⟨rfl, hw2⟩
  have hB1 : Blk w2 w1.heap.size kwC 9 := by rw [hw2]; exact Blk.new w1 _ _
  have ho2 : Only Nil w1 w2 := by rw [hw2]; exact (Only.refl _ _).alloc _
  obtain ⟨k1, hk1⟩ : ∃ k1, w1.heap.size = k1 := ⟨_, rfl⟩
  rw [hk1] at hB1 ⊢
  clear hw2
  go_wp2_with fail
  refine (keywordsR_any w2).mono ?_
  rintro e w3 ⟨rfl, hw3⟩
  have hB2 : Blk w3 w2.heap.size kwC 9 := by rw [hw3]; exact Blk.new w2 _ _
  have ho3 : Only Nil w2 w3 := by rw [hw3]; exact (Only.refl _ _).alloc _
  have hB1' := hB1.kept ho3 (fun h => h)
  obtain ⟨k2, hk2⟩ : ∃ k2, w2.heap.size = k2 := ⟨_, rfl⟩
  rw [hk2] at hB2 ⊢
  have HA := Lib.hid ((hA1.kept ho2).kept ho3)
  have HO := Lib.hid ((ho1.trans ho2 (fun _ _ h => h)).trans ho3 (fun _ _ h => h))
  have HX := Lib.hid hx
  have HY := Lib.hid hy
  have HXK := Lib.hid hxk
  have HYK := Lib.hid hyk
  have HZ := Lib.hid hz
  have HT := Lib.hid ht
  clear hw3 hB1 hA hA1 ho1 ho2 ho3 hx hy hxk hyk hz ht hk1 hk2
  go_wp2_with fail
  go_loopg [9] 33 (fun g i wr => Only Nil w3 wr ∧ ∃ (j : Nat), i = .int .i64 (j : Int) ∧ j ≤ 33 ∧ g = 33 - j)
  case atStart => exact ⟨Only.refl _ _, 0, rfl, by omega, rfl⟩
  case round =>
    obtain ⟨ho, j, rfl, hj, hg⟩ := hrel
    have HG := Lib.hid hg
    clear hg
    have j0 : (0 : Int) ≤ (j : Int) := Int.natCast_nonneg _
    by_cases hj2 : j < 33
    · have j1 : (j : Int) < 33 := by omega
      have c0 : wr.cell? ⟨k1, j, none⟩ = some (.string (kwL.getD j ByteArray.empty)) := ho.cell (by rw [hB1'.cell, kw_get j hj2]) (fun h => h)
      have c1 : wr.cell? ⟨k2, j, none⟩ = some (.string (kwL.getD j ByteArray.empty)) := ho.cell (by rw [hB2.cell, kw_get j hj2]) (fun h => h)
      obtain ⟨u, hu⟩ : ∃ u, kwL.getD j ByteArray.empty = u := ⟨_, rfl⟩
      rw [hu] at c0 c1
      clear hu
      go_wp2_with fail
      go_quiet (fail)
      go_wp2_with fail
      go_roundg (33 - (j + 1))
      case measure => have := HG.out; omega
      case rel => exact ⟨M.Only.drewN ho _, j + 1, by go_num, by omega, rfl⟩
    · have hj3 : j = 33 := by omega
      subst hj3
      have c1 : wr.cell? ⟨k2, m, none⟩ = some (.string z) := ho.cell (by rw [hB2.cell, kw_get m hm33, HZ.out]) (fun h => h)
      have hlt := World.block_lt_of_cell? _ _ c1
      simp only at hlt
      have m0 : (0 : Int) ≤ (m : Int) := Int.natCast_nonneg _
      have m1 : (m : Int) < 33 := by omega
      have hAr := HA.out.kept ho
      have HOr := Lib.hid (HO.out.trans ho (fun _ _ h => h))
      have cA := fun (s : ByteArray) h w h2 => all_any s s.size rfl h w h2
      clear hB1' hB2 ho
      obtain ⟨n, hn⟩ : ∃ n, z.size = n := ⟨_, rfl⟩
      rw [hn] at hz9 hz2
      have hn1 : ((n : Int) - 1).toNat = n - 1 := by omega
      have hn2 : (0 : Int) ≤ (n : Int) - 1 := by omega
      have hn3 : (n : Int) - 1 ≤ (n : Int) := by omega
      go_upto_if 50 with fail
      go_cut [11] (fun s11 wx => s11 = .string t ∧ wx = wr)
      case first =>
        cases cut
        · have ht := HT.out
          simp only [Bool.false_eq_true, if_false] at ht
          have HTT := Lib.hid ht
          clear ht
          go_wp2_with fail
          go_meet
          exact ⟨by rw [HTT.out], rfl⟩
        · have ht := HT.out
          simp only [if_true, hn] at ht
          have HTT := Lib.hid ht
          clear ht
          go_wp2_with fail
          go_meet
          exact ⟨by rw [HTT.out], rfl⟩
      case rest =>
        obtain ⟨rfl, rfl⟩ := hcut
        have HN := Lib.hid hn
        clear hn1 hn2 hn3 hn
        go_wp2_with fail
        refine (cA z (by rw [HN.out]; omega) _ hAr).mono ?_
        rintro e w4 ⟨ha, ho4⟩
        rw [HX.out] at ha
        obtain ⟨v1, rfl, hown1⟩ := ha
        go_wp2_with fail
        refine (cA t (by omega) _ (hAr.kept ho4)).mono ?_
        rintro e w5 ⟨hb, ho5⟩
        rw [HY.out] at hb
        obtain ⟨v2, rfl, hown2⟩ := hb
        obtain ⟨b1, T1⟩ : ∃ b, TSrc w5 b v1 z [x, x2] := ⟨_, (TSrc.of_own hown1).kept ho5⟩
        obtain ⟨b2, T2⟩ : ∃ b, TSrc w5 b v2 t [y, y2] := ⟨_, TSrc.of_own hown2⟩
        have hA5 := Lib.hid ((hAr.kept ho4).kept ho5)
        have HO5 := Lib.hid ((HOr.out.trans ho4 (fun _ _ h => h)).trans ho5 (fun _ _ h => h))
        clear hown1 hown2 ho4 ho5 cA hAr c1 hlt
        obtain ⟨a1, cap1, off1, rfl, p1, p2, p3, p4⟩ := T1
        obtain ⟨a2, cap2, off2, rfl, q1, q2, q3, q4⟩ := T2
        obtain rfl := p3 (Nat.succ_pos _)
        obtain rfl := q3 (Nat.succ_pos _)
        have d1 := (p4 0 _ rfl).1
        have d2 := (q4 0 _ rfl).1
        simp only [Nat.zero_mul, Nat.add_zero] at d1 d2
        rw [HXK.out] at d1
        have hl1 := World.block_lt_of_cell? _ _ d1
        have hl2 := World.block_lt_of_cell? _ _ d2
        simp only [show [x, x2].length = 2 from rfl, show [y, y2].length = 2 from rfl] at *
        obtain ⟨yk, hyk⟩ : ∃ yk, y.kind = yk := ⟨_, rfl⟩
        have HYK2 := HYK.out
        rw [hyk] at d2 HYK2
        clear p3 p4 q3 q4 hyk
        have cKey := fun w => keywordR_any t w
        obtain ⟨kw, hkw⟩ : ∃ kw, kwB t = kw := ⟨_, rfl⟩
        rw [hkw] at cKey HYK2
        have hy6 : ((yk : Int) == 6) = kw := by rw [← HYK2]; rw [Bool.eq_iff_iff]; simp; omega
        clear hkw HYK2
        have cv : ∀ W : World, (convert 33 9 (.slice (some ⟨W.heap.size, 0, none⟩) 1 1)).run Tryd.prog (W.alloc (.cells #[.int .u8 (c : Int)] 5)) = .ok (.string (strOf [c])) (W.alloc (.cells #[.int .u8 (c : Int)] 5)) := fun W => by
          have h := own_u8 (X := [c]) (Blk.new W #[.int .u8 (c : Int)] 5) (by unfold maxLen; show 1 ≤ _; decide)
          exact conv_src _ _ _ [c] (Src.of_own h)
        have hsc := strOf_size [c]
        obtain ⟨zc, hzc⟩ : ∃ zc, strOf [c] = zc := ⟨_, rfl⟩
        rw [hzc] at cv hsc
        have hzb : z.size + zc.size ≤ 900000 := by rw [HN.out, hsc]; show n + 1 ≤ _; omega
        have hz9' : z.size ≤ 9 := by rw [HN.out]; exact hz9
        have hsc' : zc.size = 1 := hsc
        have d1d : w5.drew.cell? ⟨b1, off1, none⟩ = some (.int .i64 6) := d1
        have d2d : w5.drew.cell? ⟨b2, off2, none⟩ = some (.int .i64 (yk : Nat)) := d2
        have HZB := Lib.hid hzb
        clear hzc hsc hzb HT HZ HX HY HXK HYK HN
        go_wp2_with fail
        go_region_held (fun w' => w'.cell? ⟨b1, off1, none⟩ = some (.int .i64 6) ∧ w'.cell? ⟨b2, off2, none⟩ = some (.int .i64 (yk : Nat))) (go_keep) (first
          | (go_at_call 23; refine (cKey _).mono ?_; rintro e w6 ⟨rfl, ho6⟩; have r1 := ho6.cell d1d (fun h => h); have r2 := ho6.cell d2d (fun h => h))
          | (go_at_call 14; refine (toldB _ (by rw [ByteArray.size_append]; exact HZB.out) _ ((hA5.out.kept ((Only.refl Nil w5).drew.trans ho6 (fun _ _ h => h))).kept ((Only.refl Nil w6).alloc _))).mono ?_; rintro e w7 ⟨rfl, ho7⟩; have u1 := (((Only.refl Nil w6).alloc _).trans ho7 (fun _ _ h => h)).cell r1 (fun h => h); have u2 := (((Only.refl Nil w6).alloc _).trans ho7 (fun _ _ h => h)).cell r2 (fun h => h)))
        all_goals have hoE : Only Nil w5 w7 := ((((Only.refl Nil w5).drew.trans ho6 (fun _ _ h => h)).alloc _).trans ho7 (fun _ _ h => h))
        all_goals go_wp2_with fail
        all_goals go_ret
        all_goals exact ⟨rfl, HO5.out.trans hoE (fun _ _ h => h)⟩
end Go.Proofs.YtcglfkegdimllaaDoor
