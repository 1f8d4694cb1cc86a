/- The chapter's example once more: it leaves memory that is not empty. -/
import Derived.Test.YthdolanamcmooaaOKnow2
set_option linter.unusedSimpArgs false
set_option linter.unusedVariables false
namespace Go.Proofs.Ythdolanamcmooaa
open Go.RowKit M

set_option maxRecDepth 10000 in
set_option maxHeartbeats 3200000 in
theorem known24s (w : World) : Calls Try.prog 53 #[] w fun e w' => e = .returned (.bool true) ∧ Only Nil w w' ∧ 0 < w'.heap.size := by
  go_enter Try.func53, Try.ntmps53
  go_wp2_with fail
  have cA0 : (mdCells (aB, [outB, bB]) (.slice (some ⟨w.heap.size, 0, none⟩) 2 2)).toArray = #[Value.string ⟨#[65]⟩, .slice (some ⟨w.heap.size, 0, none⟩) 2 2, .slice none 0 0, .slice none 0 0, .slice none 0 0, .slice none 0 0, .slice none 0 0, .slice none 0 0] := rfl
  have BS := Blk.new w (Strs [outB, bB]).toArray 9
  have o1 : Only Nil w (w.alloc (.cells (Strs [outB, bB]).toArray 9)) := (Only.refl _ _).alloc _
  obtain ⟨w1, hw1⟩ : ∃ w1, w.alloc (.cells (Strs [outB, bB]).toArray 9) = w1 := ⟨_, rfl⟩
  have hw1' : w.alloc (.cells #[Value.string ⟨#[79, 117, 116]⟩, .string ⟨#[66]⟩] 9) = w1 := hw1
  rw [hw1']
  have z1 : w1.heap.size = w.heap.size + 1 := by rw [← hw1]; simp
  rw [hw1] at BS o1
  have BA := Blk.new w1 (mdCells (aB, [outB, bB]) (.slice (some ⟨w.heap.size, 0, none⟩) 2 2)).toArray 102
  have o2 : Only Nil w1 (w1.alloc (.cells (mdCells (aB, [outB, bB]) (.slice (some ⟨w.heap.size, 0, none⟩) 2 2)).toArray 102)) := (Only.refl _ _).alloc _
  obtain ⟨w2, hw2⟩ : ∃ w2, w1.alloc (.cells (mdCells (aB, [outB, bB]) (.slice (some ⟨w.heap.size, 0, none⟩) 2 2)).toArray 102) = w2 := ⟨_, rfl⟩
  have hw2' : w1.alloc (.cells #[Value.string ⟨#[65]⟩, .slice (some ⟨w.heap.size, 0, none⟩) 2 2, .slice none 0 0, .slice none 0 0, .slice none 0 0, .slice none 0 0, .slice none 0 0, .slice none 0 0] 102) = w2 := hw2
  rw [hw2']
  have z2 : w2.heap.size = w.heap.size + 1 + 1 := by rw [← hw2]; simp [z1]
  rw [hw2, z1] at BA
  rw [hw2] at o2
  have BB := Blk.new w2 (mdCells (bB, []) (.slice none 0 0)).toArray 102
  have o3 : Only Nil w2 (w2.alloc (.cells (mdCells (bB, []) (.slice none 0 0)).toArray 102)) := (Only.refl _ _).alloc _
  obtain ⟨w3, hw3⟩ : ∃ w3, w2.alloc (.cells (mdCells (bB, []) (.slice none 0 0)).toArray 102) = w3 := ⟨_, rfl⟩
  have hw3' : w2.alloc (.cells #[Value.string ⟨#[66]⟩, .slice none 0 0, .slice none 0 0, .slice none 0 0, .slice none 0 0, .slice none 0 0, .slice none 0 0, .slice none 0 0] 102) = w3 := hw3
  rw [hw3']
  have z3 : w3.heap.size = w.heap.size + 1 + 1 + 1 := by rw [← hw3]; simp [z2]
  rw [hw3, z2] at BB
  rw [hw3] at o3
  have BM := Blk.new w3 (mdCells (aB, [outB, bB]) (.slice (some ⟨w.heap.size, 0, none⟩) 2 2) ++ mdCells (bB, []) (.slice none 0 0)).toArray 102
  have o4 : Only Nil w3 (w3.alloc (.cells (mdCells (aB, [outB, bB]) (.slice (some ⟨w.heap.size, 0, none⟩) 2 2) ++ mdCells (bB, []) (.slice none 0 0)).toArray 102)) := (Only.refl _ _).alloc _
  obtain ⟨w4, hw4⟩ : ∃ w4, w3.alloc (.cells (mdCells (aB, [outB, bB]) (.slice (some ⟨w.heap.size, 0, none⟩) 2 2) ++ mdCells (bB, []) (.slice none 0 0)).toArray 102) = w4 := ⟨_, rfl⟩
  have hw4' : w3.alloc (.cells #[Value.string ⟨#[65]⟩, .slice (some ⟨w.heap.size, 0, none⟩) 2 2, .slice none 0 0, .slice none 0 0, .slice none 0 0, .slice none 0 0, .slice none 0 0, .slice none 0 0, .string ⟨#[66]⟩, .slice none 0 0, .slice none 0 0, .slice none 0 0, .slice none 0 0, .slice none 0 0, .slice none 0 0, .slice none 0 0] 102) = w4 := hw4
  rw [hw4']
  rw [hw4, z3] at BM
  rw [hw4] at o4
  have o14 : Only Nil w1 w4 := (o2.trans o3 (fun _ _ h => h)).trans o4 (fun _ _ h => h)
  have BS4 := BS.kept o14 (fun h => h)
  have BA4 := BA.kept (o3.trans o4 (fun _ _ h => h)) (fun h => h)
  have BB4 := BB.kept o4 (fun h => h)
  have O4 := Lib.hid (o1.trans o14 (fun _ _ h => h))
  have SS := strs_src BS4
  obtain ⟨s0, hs0⟩ : ∃ s0, w.heap.size = s0 := ⟨_, rfl⟩
  rw [hs0] at BS4 BA4 BB4 BM SS ⊢
  obtain ⟨pa, hpa⟩ : ∃ pa, s0 + 1 = pa := ⟨_, rfl⟩
  rw [hpa] at BA4 BB4 BM ⊢
  obtain ⟨pb, hpb⟩ : ∃ pb, pa + 1 = pb := ⟨_, rfl⟩
  rw [hpb] at BB4 BM ⊢
  obtain ⟨pm, hpm⟩ : ∃ pm, pb + 1 = pm := ⟨_, rfl⟩
  rw [hpm] at BM ⊢
  have HS0 := Lib.hid hs0
  have gab : pa ≠ pb := by omega
  have gsb : s0 ≠ pb := by omega
  have hM1 : MSrc w4.heap.size w4 pm (.slice (some ⟨pm, 0, none⟩) 2 2) kL1 := msrc_two BM SS BS4.lt (ib2 := s0) ⟨none, 0, 0, rfl, fun h => by simp [Strs] at h, fun _ => rfl, fun i u hu => by simp [Strs] at hu⟩ BS4.lt ⟨by decide, by decide, by decide⟩ ⟨by decide, by decide, by decide⟩
  have c1 := mods_any w4.heap.size pm _ kL1 w4 hM1 (Nat.le_refl _) (by decide)
  have HBS := Lib.hid BS4
  have HBA := Lib.hid BA4
  have HBB := Lib.hid BB4
  have GPB := Lib.hid (show s0 ≤ pb by omega)
  clear BS o1 hw1 hw1' z1 BA o2 hw2 hw2' z2 BB o3 hw3 hw3' z3 BM o4 hw4 hw4' o14 BS4 BA4 BB4 SS hs0 hpa hpb hpm hM1 cA0
  refine c1.mono ?_
  rintro e w5 ⟨v, l, c, rfl, hown, hord, ho5⟩
  obtain ⟨rfl, rfl⟩ := hord.unique kL1_ord
  obtain ⟨aL, cL, hv⟩ := sl_of_own hown
  subst hv
  have HOWN := Lib.hid hown
  have B5 := HBB.out.kept ho5 (fun h => h)
  have A5 := HBA.out.kept ho5 (fun h => h)
  have O5 := Lib.hid (O4.out.trans ho5 (fun _ _ h => h))
  have HO5 := Lib.hid ho5
  have b0 : w5.cell? ⟨pb, 0, none⟩ = some (.string ⟨#[66]⟩) := B5.cell 0
  have b1 : w5.cell? ⟨pb, 1, none⟩ = some (.slice none 0 0) := B5.cell 1
  have b2 : w5.cell? ⟨pb, 2, none⟩ = some (.slice none 0 0) := B5.cell 2
  have b3 : w5.cell? ⟨pb, 3, none⟩ = some (.slice none 0 0) := B5.cell 3
  have b4 : w5.cell? ⟨pb, 4, none⟩ = some (.slice none 0 0) := B5.cell 4
  have b5 : w5.cell? ⟨pb, 5, none⟩ = some (.slice none 0 0) := B5.cell 5
  have b6 : w5.cell? ⟨pb, 6, none⟩ = some (.slice none 0 0) := B5.cell 6
  have b7 : w5.cell? ⟨pb, 7, none⟩ = some (.slice none 0 0) := B5.cell 7
  have bf := B5.free 1
  have a0 : w5.cell? ⟨pa, 0, none⟩ = some (.string ⟨#[65]⟩) := A5.cell 0
  have a1 : w5.cell? ⟨pa, 1, none⟩ = some (.slice (some ⟨s0, 0, none⟩) 2 2) := A5.cell 1
  have a2 : w5.cell? ⟨pa, 2, none⟩ = some (.slice none 0 0) := A5.cell 2
  have a3 : w5.cell? ⟨pa, 3, none⟩ = some (.slice none 0 0) := A5.cell 3
  have a4 : w5.cell? ⟨pa, 4, none⟩ = some (.slice none 0 0) := A5.cell 4
  have a5 : w5.cell? ⟨pa, 5, none⟩ = some (.slice none 0 0) := A5.cell 5
  have a6 : w5.cell? ⟨pa, 6, none⟩ = some (.slice none 0 0) := A5.cell 6
  have a7 : w5.cell? ⟨pa, 7, none⟩ = some (.slice none 0 0) := A5.cell 7
  have la := A5.lt
  have lb := B5.lt
  have HA5 := Lib.hid A5
  have HB5 := Lib.hid B5
  clear c1 hown hord ho5 A5 B5
  go_wp2_with fail
  have oX : Only (M.One pb) w5 (w5.setCell ⟨pb, 1, none⟩ (.slice (some ⟨w5.heap.size, 0, none⟩) 1 1)) := (Only.refl (M.One pb) w5).setCell' (M.One pb) rfl _
  obtain ⟨wX, hwX⟩ : ∃ wX, w5.setCell ⟨pb, 1, none⟩ (.slice (some ⟨w5.heap.size, 0, none⟩) 1 1) = wX := ⟨_, rfl⟩
  have zX : wX.heap.size = w5.heap.size := by rw [← hwX]; simp [World.setCell]
  rw [hwX] at oX ⊢
  have BA := Blk.new wX (Strs [aB]).toArray 9
  have oY : Only Nil wX (wX.alloc (.cells (Strs [aB]).toArray 9)) := (Only.refl _ _).alloc _
  obtain ⟨wY, hwY⟩ : ∃ wY, wX.alloc (.cells (Strs [aB]).toArray 9) = wY := ⟨_, rfl⟩
  have hwY' : wX.alloc (.cells #[Value.string ⟨#[65]⟩] 9) = wY := hwY
  rw [hwY']
  have zY : wY.heap.size = w5.heap.size + 1 := by rw [← hwY]; simp [zX]
  rw [hwY, zX] at BA
  rw [hwY] at oY
  have BM := Blk.new wY (mdCells (aB, [outB, bB]) (.slice (some ⟨s0, 0, none⟩) 2 2) ++ mdCells (bB, [aB]) (.slice (some ⟨w5.heap.size, 0, none⟩) 1 1)).toArray 102
  have oZ : Only Nil wY (wY.alloc (.cells (mdCells (aB, [outB, bB]) (.slice (some ⟨s0, 0, none⟩) 2 2) ++ mdCells (bB, [aB]) (.slice (some ⟨w5.heap.size, 0, none⟩) 1 1)).toArray 102)) := (Only.refl _ _).alloc _
  obtain ⟨wZ, hwZ⟩ : ∃ wZ, wY.alloc (.cells (mdCells (aB, [outB, bB]) (.slice (some ⟨s0, 0, none⟩) 2 2) ++ mdCells (bB, [aB]) (.slice (some ⟨w5.heap.size, 0, none⟩) 1 1)).toArray 102) = wZ := ⟨_, rfl⟩
  have hwZ' : wY.alloc (.cells #[Value.string ⟨#[65]⟩, .slice (some ⟨s0, 0, none⟩) 2 2, .slice none 0 0, .slice none 0 0, .slice none 0 0, .slice none 0 0, .slice none 0 0, .slice none 0 0, .string ⟨#[66]⟩, .slice (some ⟨w5.heap.size, 0, none⟩) 1 1, .slice none 0 0, .slice none 0 0, .slice none 0 0, .slice none 0 0, .slice none 0 0, .slice none 0 0] 102) = wZ := hwZ
  rw [hwZ']
  rw [hwZ, zY] at BM
  rw [hwZ] at oZ
  have S4 := HBS.out.kept HO5.out (fun h => h)
  have SX := S4.kept oX (fun h => gsb h)
  have SZ := SX.kept (oY.trans oZ (fun _ _ h => h)) (fun h => h)
  have AX := HA5.out.kept oX (fun h => gab h)
  have AZ := AX.kept (oY.trans oZ (fun _ _ h => h)) (fun h => h)
  have BAZ := BA.kept oZ (fun h => h)
  have OZ := Lib.hid (show Only Nil w wZ from (O5.out.trans oX (fun i hi h => by have h1 : i = pb := h; have := HS0.out; have := GPB.out; omega)).trans (oY.trans oZ (fun _ _ h => h)) (fun _ _ h => h))
  have HOWZ := Lib.hid (ownsRow_only (ownsRow_only HOWN.out oX (fun k hk h => by
    have h1 : k = pb := h
    have h2 := (HOWN.out.lt k hk).1
    have h3 := HBB.out.lt
    omega)) (oY.trans oZ (fun _ _ h => h)) (fun _ _ h => h))
  obtain ⟨n5, hn5⟩ : ∃ n5, w5.heap.size = n5 := ⟨_, rfl⟩
  rw [hn5] at BAZ BM ⊢
  have hM2 : MSrc wZ.heap.size wZ (n5 + 1) (.slice (some ⟨n5 + 1, 0, none⟩) 2 2) kL2 := msrc_two BM (strs_src SZ) SZ.lt (strs_src BAZ) BAZ.lt ⟨by decide, by decide, by decide⟩ ⟨by decide, by decide, by decide⟩
  have c2 := mods_any wZ.heap.size (n5 + 1) _ kL2 wZ hM2 (Nat.le_refl _) (by decide)
  have HSZ := Lib.hid SZ
  have HAZ := Lib.hid AZ
  clear oX hwX zX BA oY hwY hwY' zY BM oZ hwZ hwZ' S4 SX SZ AX AZ BAZ hn5 hM2 a0 a1 a2 a3 a4 a5 a6 a7 b0 b1 b2 b3 b4 b5 b6 b7 bf la lb
  refine c2.mono ?_
  rintro e w6 ⟨v, l, c, rfl, hown, hord, ho6⟩
  obtain ⟨rfl, rfl⟩ := hord.unique kL2_ord
  obtain ⟨aK, cK, hv⟩ := sl_of_own hown
  subst hv
  have R6 := ownsRow_only HOWZ.out ho6 (fun _ _ h => h)
  have S6 := HSZ.out.kept ho6 (fun h => h)
  have A6 := HAZ.out.kept ho6 (fun h => h)
  have O6 := Lib.hid (OZ.out.trans ho6 (fun _ _ h => h))
  have cI := fun (w' : World) (ho : Only Nil w6 w') (h2 : Src w' w6.heap.size (.slice (some ⟨w6.heap.size, 0, none⟩) 2 2) (Ints [1, 0])) => intsCmp_any _ _ _ _ [1, 0] [1, 0] w' ((Src.of_own R6).kept ho (fun _ h => h)) h2 (by decide) (by decide)
  have HS6 := Lib.hid S6
  have HA6 := Lib.hid A6
  clear c2 hown hord ho6 R6 S6 A6
  go_wp2_with fail
  have hB6 := Blk.new w6 (Ints [1, 0]).toArray 3
  refine (cI _ ((Only.refl _ _).alloc _) (src_of_blk hB6)).mono ?_
  rintro e w7 ⟨rfl, ho7⟩
  have o67 : Only Nil w6 w7 := ((Only.refl Nil w6).alloc (.cells (Ints [1, 0]).toArray 3)).trans ho7 (fun _ _ h => h)
  have O7 := Lib.hid (O6.out.trans o67 (fun _ _ h => h))
  have A7 := HA6.out.kept o67 (fun h => h)
  have S7 := HS6.out.kept o67 (fun h => h)
  have a0 : w7.cell? ⟨pa, 0, none⟩ = some (.string ⟨#[65]⟩) := A7.cell 0
  have a1 : w7.cell? ⟨pa, 1, none⟩ = some (.slice (some ⟨s0, 0, none⟩) 2 2) := A7.cell 1
  have a2 : w7.cell? ⟨pa, 2, none⟩ = some (.slice none 0 0) := A7.cell 2
  have a3 : w7.cell? ⟨pa, 3, none⟩ = some (.slice none 0 0) := A7.cell 3
  have a4 : w7.cell? ⟨pa, 4, none⟩ = some (.slice none 0 0) := A7.cell 4
  have a5 : w7.cell? ⟨pa, 5, none⟩ = some (.slice none 0 0) := A7.cell 5
  have a6 : w7.cell? ⟨pa, 6, none⟩ = some (.slice none 0 0) := A7.cell 6
  have a7 : w7.cell? ⟨pa, 7, none⟩ = some (.slice none 0 0) := A7.cell 7
  have la := A7.lt
  have cN := needsI_any s0 ⟨#[65]⟩ _ [outB, bB] w7 (strs_src S7) (by decide)
  clear cI ho7 o67 A7 S7 hB6
  go_wp2_with fail
  refine cN.mono ?_
  rintro e w8 ⟨v, rfl, hown, ho8⟩
  rw [kL1_needs] at hown
  have O8 := Lib.hid (O7.out.trans ho8 (fun _ _ h => h))
  have cS := fun (w' : World) (ho : Only Nil w8 w') (h2 : Src w' w8.heap.size (.slice (some ⟨w8.heap.size, 0, none⟩) 1 1) (Strs [bB])) => strs_same _ _ _ _ [bB] w' ((Src.of_own hown).kept ho (fun _ h => h)) h2 (by decide)
  clear cN hown ho8 a0 a1 a2 a3 a4 a5 a6 a7 la
  go_wp2_with fail
  have hB8 := Blk.new w8 (Strs [bB]).toArray 9
  refine (cS _ ((Only.refl _ _).alloc _) (strs_src hB8)).mono ?_
  rintro e w9 ⟨rfl, ho9⟩
  have O9 := Lib.hid ((O8.out.alloc (.cells (Strs [bB]).toArray 9)).trans ho9 (fun _ _ h => h))
  have HZ9 := Lib.hid (show 0 < w9.heap.size by have := ho9.size; simp only [World.size_alloc] at this; omega)
  clear cS ho9 hB8
  go_wp2_with fail
  go_ret
  exact ⟨rfl, O9.out, HZ9.out⟩
end Go.Proofs.Ythdolanamcmooaa
