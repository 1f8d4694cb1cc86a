/- typeOf tells some type, in blocks that were handed in or are new. -/
import Derived.Test.YtcbeibhmjokecaaDoorYArr
set_option linter.unusedSimpArgs false
set_option linter.unusedVariables false
namespace Go.Proofs.YtcbeibhmjokecaaDoor
open Go.RowKit M

/-- What typeOf leaves. -/
def TyOut (U : Nat → Prop) (w : World) (e : Ending) (w' : World) : Prop :=
  ∃ (t : Ty) (ov : Value), e = .returned (.agg #[.int .i64 t.form, .int .i64 t.n, .string t.name, ov]) ∧ TyS (fun k => U k ∨ w.heap.size ≤ k) w' ov t.of ∧ t.name.size ≤ maxLen ∧ Only Nil w w'
theorem put_out {U : Nat → Prop} {w w' : World} {b : Nat} {t : Ty} {ov c0 c1 c2 c3 : Value} (hT : TyS (fun k => (U k ∨ w.heap.size ≤ k) ∧ k ≠ b) w' ov t.of) (ho : Only Nil w w') (hb : w.heap.size ≤ b) (hB : Blk w' b #[c0, c1, c2, c3] 25) (hn : t.name.size ≤ maxLen) :
    TyOut U w (Ending.returned (.agg #[.int .i64 t.form, .int .i64 t.n, .string t.name, ov])) ((((w'.setCell ⟨b, 0, none⟩ (.int .i64 t.form)).setCell ⟨b, 1, none⟩ (.int .i64 t.n)).setCell ⟨b, 2, none⟩ (.string t.name)).setCell ⟨b, 3, none⟩ ov) := by
  have h1 : Only (M.One b) w' ((((w'.setCell ⟨b, 0, none⟩ (.int .i64 t.form)).setCell ⟨b, 1, none⟩ (.int .i64 t.n)).setCell ⟨b, 2, none⟩ (.string t.name)).setCell ⟨b, 3, none⟩ ov) := M.Only.putFour (C := M.One b) (b := b) (Only.refl _ _) (fun _ => rfl) _ _ _ _
  refine ⟨t, ov, rfl, (hT.kept h1 (fun k hk h => hk.2 h)).mono (fun k hk => hk.1), hn, ho.trans h1 (fun k hk h => by have : k = b := h; omega)⟩

set_option maxRecDepth 20000 in
set_option maxHeartbeats 6400000 in
theorem typeOf_any {U : Nat → Prop} (x : Nat) (hx : x < 256) (f n : Int) (s : ByteArray) (hs : s.size ≤ maxLen) (ov : Value) (l : List Ty) (w : World) (h : TyS U w ov l) :
    Calls Tryd.prog 16 #[.int .u8 (x : Int), .agg #[.int .i64 f, .int .i64 n, .string s, ov]] w (TyOut U w) := by
  obtain ⟨ao, cap, rfl⟩ := h.slice
  obtain ⟨na, hna⟩ : ∃ k, l.length = k := ⟨_, rfl⟩
  rw [hna] at h ⊢
  have H := Lib.hid (show TyS (fun k => U k ∧ k < w.heap.size) w (.slice ao na cap) l from h.lts)
  have HX := Lib.hid hx
  have HS := Lib.hid hs
  obtain ⟨qi, hqi⟩ : ∃ z : Int, (x : Int) % 10 = z := ⟨_, rfl⟩
  have HQI := Lib.hid hqi
  have HQ := Lib.hid (show 0 ≤ qi ∧ qi < 10 by omega)
  obtain ⟨c, hc⟩ : ∃ c : Nat, 48 + x / 16 % 256 % 7 = c := ⟨_, rfl⟩
  have HC := Lib.hid hc
  have hc2 : c < 256 := by omega
  have wc2 : 48 + (x : Int) / 16 % 256 % 7 = (c : Int) := by rw [← hc]; simp
  have HWC := Lib.hid wc2
  clear h hna hx hs hqi hc
  have s1 : (w.alloc (.cells #[.int .i64 f, .int .i64 n, .string s, .slice ao na cap] 25)).heap.size = w.heap.size + 1 := by simp
  have hBx := Blk.new w #[.int .i64 f, .int .i64 n, .string s, .slice ao na cap] 25
  have o1 := alloc0 w (.cells #[.int .i64 f, .int .i64 n, .string s, .slice ao na cap] 25)
  obtain ⟨w1, hw1⟩ : ∃ z, w.alloc (.cells #[.int .i64 f, .int .i64 n, .string s, .slice ao na cap] 25) = z := ⟨_, rfl⟩
  rw [hw1] at s1 hBx o1
  have hBr := Blk.new w1 #[.int .i64 0, .int .i64 0, .string ⟨#[]⟩, .slice none 0 0] 25
  have o2 := alloc0 w1 (.cells #[.int .i64 0, .int .i64 0, .string ⟨#[]⟩, .slice none 0 0] 25)
  rw [s1] at hBr
  have s2 : (w1.alloc (.cells #[.int .i64 0, .int .i64 0, .string ⟨#[]⟩, .slice none 0 0] 25)).heap.size = w.heap.size + 2 := by simp [s1]
  obtain ⟨w2, hw2⟩ : ∃ z, w1.alloc (.cells #[.int .i64 0, .int .i64 0, .string ⟨#[]⟩, .slice none 0 0] 25) = z := ⟨_, rfl⟩
  rw [hw2] at s2 hBr o2
  have hC := Blk.new w2 #[.int .u8 (c : Int)] 5
  have o3 := alloc0 w2 (.cells #[.int .u8 (c : Int)] 5)
  have cv := conv_blk hC
  have cS := ch_size c
  obtain ⟨S, hS⟩ : ∃ S, ch c = S := ⟨_, rfl⟩
  rw [hS] at cv cS
  rw [s2] at cv
  rw [← wc2] at cv o3
  have HW1 := Lib.hid hw1
  have HW2 := Lib.hid hw2
  have hBx3 := (hBx.kept o2 (fun h => h)).kept o3 (fun h => h)
  have hBr3 := hBr.kept o3 (fun h => h)
  have O3 := Nil.trans (Nil.trans o1 o2) o3
  have HBX := Lib.hid hBx3
  have HBR := Lib.hid hBr3
  have HO3 := Lib.hid O3
  clear hw1 hw2 hBx hBr o1 o2 hC o3 hS s1 hBx3 hBr3 O3 wc2 hc2
  go_enter Tryd.func16, Tryd.ntmps16
  go_upto_region 1 with fail
  rw [HW1.out, HW2.out]
  go_upto_region 2 with fail
  obtain ⟨nm, hnm⟩ : ∃ nm : ByteArray, (⟨#[77, 46, 82]⟩ : ByteArray) ++ S = nm := ⟨_, rfl⟩
  have hnz : nm.size ≤ maxLen := by rw [← hnm, ByteArray.size_append, cS]; show 3 + 1 ≤ maxLen; decide
  obtain ⟨w3, hw3⟩ : ∃ z, w2.alloc (.cells #[.int .u8 (48 + (x : Int) / 16 % 256 % 7)] 5) = z := ⟨_, rfl⟩
  rw [hw3] at HBX HBR HO3 ⊢
  rw [hnm]
  have HNZ := Lib.hid hnz
  have hlt := HBR.out.lt
  clear hw3 HWC cv cS hnm hnz s2 HW1 HW2
  go_upto_region 3 with fail
  rw [HQI.out]
  have h10 : qi = 0 ∨ qi = 1 ∨ qi = 2 ∨ qi = 3 ∨ qi = 4 ∨ qi = 5 ∨ qi = 6 ∨ qi = 7 ∨ qi = 8 ∨ qi = 9 := by have := HQ.out; omega
  clear HQI HQ
  rcases h10 with rfl | rfl | rfl | rfl | rfl | rfl | rfl | rfl | rfl | rfl
  · go_wp2_with fail
    refine (basicR_any _ _).mono ?_
    rintro e w4 ⟨rfl, ho4⟩
    have hB4 := HBR.out.kept ho4 (fun h => h)
    have O4 := Nil.trans HO3.out ho4
    obtain ⟨⟨z0, z1, z2, z3⟩, zf0, zf1, zf2, zf3⟩ := hB4.Fours
    go_wp2_with fail
    refine bodyPost_ret (results_cell_row rfl _ _ (w.heap.size + 1) 25 _ (0, 0) _ rfl (hB4.putFour _ _ _ _) Tryd.underlying25 rfl (by kernel_rfl)) rfl ?_
    exact put_out (t := .mk _ 0 ⟨#[]⟩ []) (TyS.nil _ _) O4 (by omega) hB4 (Nat.zero_le _)
  · go_wp2_with fail
    refine (basicR_any _ _).mono ?_
    rintro e w4 ⟨rfl, ho4⟩
    have hB4 := HBR.out.kept ho4 (fun h => h)
    have O4 := Nil.trans HO3.out ho4
    obtain ⟨⟨z0, z1, z2, z3⟩, zf0, zf1, zf2, zf3⟩ := hB4.Fours
    go_wp2_with fail
    refine bodyPost_ret (results_cell_row rfl _ _ (w.heap.size + 1) 25 _ (0, 0) _ rfl (hB4.putFour _ _ _ _) Tryd.underlying25 rfl (by kernel_rfl)) rfl ?_
    exact put_out (t := .mk _ 0 ⟨#[]⟩ []) (TyS.nil _ _) O4 (by omega) hB4 (Nat.zero_le _)
  · go_wp2_with fail
    refine (basicR_any _ _).mono ?_
    rintro e w4 ⟨rfl, ho4⟩
    have hB4 := HBR.out.kept ho4 (fun h => h)
    have O4 := Nil.trans HO3.out ho4
    obtain ⟨⟨z0, z1, z2, z3⟩, zf0, zf1, zf2, zf3⟩ := hB4.Fours
    go_wp2_with fail
    refine bodyPost_ret (results_cell_row rfl _ _ (w.heap.size + 1) 25 _ (0, 0) _ rfl (hB4.putFour _ _ _ _) Tryd.underlying25 rfl (by kernel_rfl)) rfl ?_
    exact put_out (t := .mk _ 0 ⟨#[]⟩ []) (TyS.nil _ _) O4 (by omega) hB4 (Nat.zero_le _)
  · have hB4 := HBR.out
    obtain ⟨⟨z0, z1, z2, z3⟩, zf0, zf1, zf2, zf3⟩ := hB4.Fours
    go_wp2_with fail
    refine bodyPost_ret (results_cell_row rfl _ _ (w.heap.size + 1) 25 _ (0, 0) _ rfl (hB4.putFour _ _ _ _) Tryd.underlying25 rfl (by kernel_rfl)) rfl ?_
    exact put_out (t := .mk 9 0 nm []) (TyS.nil _ _) HO3.out (by omega) hB4 HNZ.out
  · have hB4 := HBR.out
    obtain ⟨⟨z0, z1, z2, z3⟩, zf0, zf1, zf2, zf3⟩ := hB4.Fours
    go_wp2_with fail
    refine bodyPost_ret (results_cell_row rfl _ _ (w.heap.size + 1) 25 _ (0, 0) _ rfl (hB4.putFour _ _ _ _) Tryd.underlying25 rfl (by kernel_rfl)) rfl ?_
    exact put_out (t := .mk 9 0 nm []) (TyS.nil _ _) HO3.out (by omega) hB4 HNZ.out
  · have hB4 := HBR.out
    obtain ⟨⟨z0, z1, z2, z3⟩, zf0, zf1, zf2, zf3⟩ := hB4.Fours
    go_wp2_with fail
    refine bodyPost_ret (results_cell_row rfl _ _ (w.heap.size + 1) 25 _ (0, 0) _ rfl (hB4.putFour _ _ _ _) Tryd.underlying25 rfl (by kernel_rfl)) rfl ?_
    exact put_out (t := .mk 8 0 nm []) (TyS.nil _ _) HO3.out (by omega) hB4 HNZ.out
  · go_wp2_with fail
    refine (basicR_any 1 _).mono ?_
    rintro e w4 ⟨rfl, ho4⟩
    have O4 := Nil.trans HO3.out ho4
    have hB4 := HBR.out.kept ho4 (fun h => h)
    go_wp2_with fail
    refine (arrR_new (U := fun _ => False) _ 1 0 ⟨#[]⟩ (Nat.zero_le _) (.slice none 0 0) [] w4 (TyS.nil _ w4)).mono ?_
    rintro e w5 ⟨b5, rfl, hT5, ho5⟩
    have O5 := Nil.trans O4 ho5
    have hB5 := hB4.kept ho5 (fun h => h)
    have h4 := hB4.lt
    have hz4 := O4.size
    obtain ⟨⟨z0, z1, z2, z3⟩, zf0, zf1, zf2, zf3⟩ := hB5.Fours
    go_wp2_with fail
    refine bodyPost_ret (results_cell_row rfl _ _ (w.heap.size + 1) 25 _ (0, 0) _ rfl (hB5.putFour _ _ _ _) Tryd.underlying25 rfl (by kernel_rfl)) rfl ?_
    exact put_out (t := .mk 7 _ ⟨#[]⟩ [.mk 1 0 ⟨#[]⟩ []]) (hT5.mono (fun k hk => by rcases hk with hk | hk; exact hk.elim; exact ⟨Or.inr (by omega), by omega⟩)) O5 (by omega) hB5 (Nat.zero_le _)
  · go_wp2_with fail
    refine (basicR_any 1 _).mono ?_
    rintro e w4 ⟨rfl, ho4⟩
    have O4 := Nil.trans HO3.out ho4
    have hB4 := HBR.out.kept ho4 (fun h => h)
    go_wp2_with fail
    refine (arrR_new (U := fun _ => False) _ 1 0 ⟨#[]⟩ (Nat.zero_le _) (.slice none 0 0) [] w4 (TyS.nil _ w4)).mono ?_
    rintro e w5 ⟨b5, rfl, hT5, ho5⟩
    have O5 := Nil.trans O4 ho5
    have hB5 := hB4.kept ho5 (fun h => h)
    have h4 := hB4.lt
    have hz4 := O4.size
    obtain ⟨⟨z0, z1, z2, z3⟩, zf0, zf1, zf2, zf3⟩ := hB5.Fours
    go_wp2_with fail
    refine bodyPost_ret (results_cell_row rfl _ _ (w.heap.size + 1) 25 _ (0, 0) _ rfl (hB5.putFour _ _ _ _) Tryd.underlying25 rfl (by kernel_rfl)) rfl ?_
    exact put_out (t := .mk 7 _ ⟨#[]⟩ [.mk 1 0 ⟨#[]⟩ []]) (hT5.mono (fun k hk => by rcases hk with hk | hk; exact hk.elim; exact ⟨Or.inr (by omega), by omega⟩)) O5 (by omega) hB5 (Nat.zero_le _)
  · go_wp2_with fail
    refine (arrR_new (U := fun _ => False) _ 8 0 nm HNZ.out (.slice none 0 0) [] _ (TyS.nil _ _)).mono ?_
    rintro e w5 ⟨b5, rfl, hT5, ho5⟩
    have O5 := Nil.trans HO3.out ho5
    have hB5 := HBR.out.kept ho5 (fun h => h)
    have hz4 := HO3.out.size
    obtain ⟨⟨z0, z1, z2, z3⟩, zf0, zf1, zf2, zf3⟩ := hB5.Fours
    go_wp2_with fail
    refine bodyPost_ret (results_cell_row rfl _ _ (w.heap.size + 1) 25 _ (0, 0) _ rfl (hB5.putFour _ _ _ _) Tryd.underlying25 rfl (by kernel_rfl)) rfl ?_
    exact put_out (t := .mk 7 _ ⟨#[]⟩ [.mk 8 0 nm []]) (hT5.mono (fun k hk => by rcases hk with hk | hk; exact hk.elim; exact ⟨Or.inr (by omega), by omega⟩)) O5 (by omega) hB5 (Nat.zero_le _)
  · have hB4 := HBR.out
    have c0 : w3.cell? ⟨w.heap.size, 0, none⟩ = some (.int .i64 f) := HBX.out.cell 0
    have c1 : w3.cell? ⟨w.heap.size, 1, none⟩ = some (.int .i64 n) := HBX.out.cell 1
    have c2 : w3.cell? ⟨w.heap.size, 2, none⟩ = some (.string s) := HBX.out.cell 2
    have c3 : w3.cell? ⟨w.heap.size, 3, none⟩ = some (.slice ao na cap) := HBX.out.cell 3
    obtain ⟨⟨z0, z1, z2, z3⟩, zf0, zf1, zf2, zf3⟩ := hB4.Fours
    go_wp2_with fail
    refine bodyPost_ret (results_cell_row rfl _ _ (w.heap.size + 1) 25 _ (0, 0) _ rfl (hB4.putFour _ _ _ _) Tryd.underlying25 rfl (by kernel_rfl)) rfl ?_
    exact put_out (t := .mk f n s l) ((H.out.go HO3.out).mono (fun k hk => ⟨Or.inl hk.1, by have := hk.2; omega⟩)) HO3.out (by omega) hB4 HS.out
end Go.Proofs.YtcbeibhmjokecaaDoor
