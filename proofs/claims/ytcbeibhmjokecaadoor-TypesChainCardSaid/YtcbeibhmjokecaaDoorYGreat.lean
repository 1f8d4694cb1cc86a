/- Just how many words a type may have: the walk. -/
import Derived.Test.YtcbeibhmjokecaaDoorYKnown
import Derived.Test.YtcbeibhmjokecaaDoorYOrd
set_option linter.unusedSimpArgs false
set_option linter.unusedVariables false
namespace Go.Proofs.YtcbeibhmjokecaaDoor
open Go.RowKit M

theorem great_arr (g : ByteArray → Option Nat) (a b : Nat) (ha : 1 ≤ a) (ha2 : a ≤ 1024) (hb : 1 ≤ b) (hb2 : b ≤ 1024) (hab : b ≤ 16384) : tyW g (arr a (arr b (bas 1))) = limW (a * b) := by
  rw [tyW_arr g ha ha2 (right_arr hb hb2 right_bas), tyW_arr g hb hb2 right_bas, tyW_bas]
  simp only [Option.bind_some, Nat.mul_one]
  unfold limW
  rw [if_pos hab]
  rfl
def gR (e : Nat) : Rc := ⟨⟨#[]⟩, false, ⟨#[]⟩, [⟨⟨#[97]⟩, false, arr 16 (arr 1023 (bas 1))⟩, ⟨⟨#[98]⟩, false, arr e (bas 1)⟩]⟩
def Rg (e : Nat) : Recs := updR (fun _ => none) mrB (gR e)
theorem great_rec (e : Nat) (h1 : 1 ≤ e) (h2 : e ≤ 20) : wordsM (Rg e) 1 (Ty.mk 8 0 mrB []) = if e ≤ 16 then some (16368 + e) else none := by
  unfold wordsM
  have hr : rightB (Ty.mk 8 0 mrB []) = true := by
    unfold rightB
    rw [if_neg (by decide), if_neg (by decide), if_pos (by decide)]
    have : (mrB.toList != []) = true := by rw [ByteArray.toList_eq]; rfl
    rw [this]; rfl
  unfold tyW
  rw [if_pos hr, if_neg (by decide), if_pos rfl]
  show bodyV (Rg e) (fun _ => none) mrB = _
  unfold bodyV
  have e0 : Rg e mrB = some (gR e) := by unfold Rg updR; rw [if_pos rfl]
  rw [e0, Option.bind_some]
  rw [if_pos (show ((gR e).base.toList == []) = true from tl_nil), Option.bind_some]
  unfold gR
  simp only [sumW]
  have ha : tyW (fun _ => none) (arr 16 (arr 1023 (bas 1))) = limW (16 * 1023) := great_arr _ 16 1023 (by decide) (by decide) (by decide) (by decide) (by decide)
  rw [ha, tyW_arr _ h1 (by omega) right_bas, tyW_bas]
  have : limW (16 * 1023) = some 16368 := by unfold limW; rw [if_pos (by decide)]
  rw [this]
  simp only [Option.bind_some, Nat.mul_one, Nat.zero_add]
  rw [if_pos (by decide)]
  have : limW e = some e := by unfold limW; rw [if_pos (by omega)]
  rw [this, Option.bind_some]
  by_cases h : e ≤ 16
  · rw [if_pos h, if_pos (by omega)]
  · rw [if_neg h, if_neg (by omega)]
theorem Fg (e : Nat) : ∀ s r, Rg e s = some r → r.fields.length ≤ 1000 := by
  intro s r h
  unfold Rg updR at h
  split at h
  · injection h with h; subst h; show 2 ≤ 1000; decide
  · cases h
/-- A slice of one type, as it lies. -/
theorem TyS.one {U : Nat → Prop} {w : World} {v : Value} {t : Ty} (h : TyS U w v [t]) : ∃ (b off cap : Nat) (ov : Value), v = .slice (some ⟨b, off, none⟩) 1 cap ∧ At w b off (tyCells t ov) ∧ TyS U w ov t.of := by
  generalize hl : [t] = l at h
  cases h with
  | mk l ao cap off b ovs h0 h1 hb hn hs hc hr =>
    subst hl
    have e := h0 (by show 0 < 1; decide)
    subst e
    refine ⟨b, off, cap, ovs 0, rfl, ?_, hr 0 t rfl⟩
    have := hc 0 t rfl
    rwa [Nat.zero_mul, Nat.add_zero] at this
theorem RMap.nil (w : World) (fv : ByteArray → Value) : RMap Any w (.map none) 0 (fun _ => none) fv :=
  ⟨Or.inl ⟨rfl, rfl, fun _ => rfl⟩, (fun s r h => by cases h), (fun s r h => by cases h), ⟨[], rfl, (fun s h => by cases h)⟩, Nat.zero_le _⟩
set_option maxRecDepth 20000 in
set_option maxHeartbeats 3200000 in
theorem great_any (x : Nat) (hx : x < 256) (rc : Bool) (w : World) (hT : Tabs w) : Calls Tryd.prog 6 #[.int .u8 (x : Int), .bool rc] w fun e w' => e = .returned (.bool true) ∧ Only Nil w w' := by
  have HT := Lib.hid hT
  obtain ⟨q, hq⟩ : ∃ q, x % 5 = q := ⟨_, rfl⟩
  have hq5 : q < 5 := by omega
  have e5 : ((x : Int) % 5) = (q : Int) := by omega
  have HE5 := Lib.hid e5
  have HQ5 := Lib.hid hq5
  clear hT hq hq5 e5 hx
  go_enter Tryd.func6, Tryd.ntmps6
  go_wp2_with fail
  refine (known12_any w HT.out).mono ?_
  rintro e w1 ⟨rfl, ho1⟩
  go_wp2_with fail
  rw [HE5.out]
  refine (basicR_any 1 w1).mono ?_
  rintro e w2 ⟨rfl, ho2⟩
  have H2 := Lib.hid (Nil.trans ho1 ho2)
  clear ho1 ho2 HE5
  obtain ⟨d, hd⟩ : ∃ d : Int, (q : Int) - 2 = d := ⟨_, rfl⟩
  rw [hd]
  have HD := Lib.hid (show -2 ≤ d ∧ d ≤ 2 by have := HQ5.out; omega)
  clear hd HQ5
  go_wp2_with fail
  refine (arrR_any (U := Any) 1024 1 0 ⟨#[]⟩ (Nat.zero_le _) (.slice none 0 0) [] w2 (TyS.nil Any w2)).mono ?_
  rintro e w3 ⟨g3, rfl, hT3, ho3⟩
  have H3 := Lib.hid (Nil.trans H2.out ho3)
  have HT3 := Lib.hid hT3
  clear ho3 hT3
  go_wp2_with fail
  refine (arrR_any (U := Any) 16 7 1024 ⟨#[]⟩ (Nat.zero_le _) _ _ w3 HT3.out).mono ?_
  rintro e w4 ⟨g4, rfl, hT4, ho4⟩
  have H4 := Lib.hid (Nil.trans H3.out ho4)
  have HT4 := Lib.hid hT4
  have HT34 := Lib.hid (HT3.out.go ho4)
  clear ho4 hT4
  cases rc with
  | false =>
    go_upto_region 9 with fail
    have hB := Blk.new w4 #[.int .i64 7, .int .i64 16, .string ⟨#[]⟩, .slice (some ⟨g4, 0, none⟩) 1 1] 25
    have o5 := alloc0 w4 (.cells #[.int .i64 7, .int .i64 16, .string ⟨#[]⟩, .slice (some ⟨g4, 0, none⟩) 1 1] 25)
    obtain ⟨bt, hbt⟩ : ∃ z, w4.heap.size = z := ⟨_, rfl⟩
    obtain ⟨w5, hw5⟩ : ∃ z, w4.alloc (.cells #[.int .i64 7, .int .i64 16, .string ⟨#[]⟩, .slice (some ⟨g4, 0, none⟩) 1 1] 25) = z := ⟨_, rfl⟩
    rw [hw5, hbt] at hB
    rw [hw5] at o5 ⊢
    rw [hbt]
    clear hw5 hbt
    have HB := Lib.hid hB
    have H5 := Lib.hid (Nil.trans H4.out o5)
    have hT5 := HT4.out.go o5
    have CW1 := wordsP_any (RMap.nil w5 (fun _ => .slice none 0 0)) (fun s r h => by cases h) (Nat.zero_le _) hT5 7 16 ⟨#[]⟩ (Nat.zero_le _) w5 (Only.refl _ _)
    have ew1 : wordsM (fun _ => none) 0 (Ty.mk 7 16 ⟨#[]⟩ [Ty.mk 7 1024 ⟨#[]⟩ [Ty.mk 1 0 ⟨#[]⟩ []]]) = some 16384 := great_arr _ 16 1024 (by decide) (by decide) (by decide) (by decide) (by decide)
    rw [ew1] at CW1
    have c0 : w5.cell? ⟨bt, 0, none⟩ = some (.int .i64 7) := hB.cell 0
    have c1 : w5.cell? ⟨bt, 1, none⟩ = some (.int .i64 16) := hB.cell 1
    have c2 : w5.cell? ⟨bt, 2, none⟩ = some (.string ⟨#[]⟩) := hB.cell 2
    have c3 : w5.cell? ⟨bt, 3, none⟩ = some (.slice (some ⟨g4, 0, none⟩) 1 1) := hB.cell 3
    have HT5 := Lib.hid hT5
    have HC1 := Lib.hid CW1
    clear hB o5 hT5 CW1 ew1
    go_wp2_with fail
    refine HC1.out.mono ?_
    rintro e w6 ⟨rfl, ho6⟩
    have H6 := Lib.hid (Nil.trans H5.out ho6)
    obtain ⟨b6, off6, cap6, ov6, e6, a6, hT6⟩ := (HT5.out.go ho6).one
    simp only [Value.slice.injEq, Option.some.injEq, Addr.mk.injEq, and_true, true_and] at e6
    obtain ⟨⟨rfl, rfl⟩, rfl⟩ := e6
    obtain ⟨b7, off7, cap7, ov7, rfl, _, _⟩ := hT6.one
    have hB6 := HB.out.kept ho6 (fun h => h)
    have d3 : w6.cell? ⟨bt, 3, none⟩ = some (.slice (some ⟨g4, 0, none⟩) 1 1) := hB6.cell 3
    have f0 : w6.cell? ⟨g4, 0, none⟩ = some (.int .i64 7) := a6.get0
    have f1 : w6.cell? ⟨g4, 0 + 1, none⟩ = some (.int .i64 1024) := a6.get 1 rfl
    have f2 : w6.cell? ⟨g4, 0 + 2, none⟩ = some (.string ⟨#[]⟩) := a6.get 2 rfl
    have f3 : w6.cell? ⟨g4, 0 + 3, none⟩ = some (.slice (some ⟨b7, off7, none⟩) 1 cap7) := a6.get 3 rfl
    simp only [Nat.zero_add] at f1 f2 f3
    have HT6 := Lib.hid hT6
    clear HC1 c0 c1 c2 c3 ho6 a6 hT6 hB6
    simp only [Option.getD_some, Option.isSome_some]
    go_wp2_with fail
    refine (arrR_any 17 7 1024 ⟨#[]⟩ (Nat.zero_le _) _ _ w6 HT6.out).mono ?_
    rintro e w7 ⟨g7, rfl, hT7, ho7⟩
    have H7 := Lib.hid (Nil.trans H6.out ho7)
    have CW2 := wordsP_any (RMap.nil w7 (fun _ => .slice none 0 0)) (fun s r h => by cases h) (Nat.zero_le _) hT7 7 17 ⟨#[]⟩ (Nat.zero_le _) w7 (Only.refl _ _)
    have ew2 : wordsM (fun _ => none) 0 (Ty.mk 7 17 ⟨#[]⟩ [Ty.mk 7 1024 ⟨#[]⟩ [Ty.mk 1 0 ⟨#[]⟩ []]]) = none := great_arr _ 17 1024 (by decide) (by decide) (by decide) (by decide) (by decide)
    rw [show wordsM (fun _ => none) 0 (Ty.mk 7 17 ⟨#[]⟩ [Ty.mk 7 1024 ⟨#[]⟩ (Ty.mk 7 1024 ⟨#[]⟩ [Ty.mk 1 0 ⟨#[]⟩ []]).of]) = none from ew2] at CW2
    have HC2 := Lib.hid CW2
    clear d3 f0 f1 f2 f3 ho7 CW2 ew2 hT7
    go_wp2_with fail
    refine HC2.out.mono ?_
    rintro e w8 ⟨rfl, ho8⟩
    have H8 := Lib.hid (Nil.trans H7.out ho8)
    clear HC2 ho8
    simp only [Option.getD_none, Option.isSome_none]
    go_wp2_with fail
    go_ret
    exact ⟨rfl, H8.out⟩
  | true =>
    go_wp2_with fail
    have o5 := alloc0 w4 (.cells #[.int .i64 7, .int .i64 16, .string ⟨#[]⟩, .slice (some ⟨g4, 0, none⟩) 1 1] 25)
    obtain ⟨w5, hw5⟩ : ∃ z, w4.alloc (.cells #[.int .i64 7, .int .i64 16, .string ⟨#[]⟩, .slice (some ⟨g4, 0, none⟩) 1 1] 25) = z := ⟨_, rfl⟩
    rw [hw5] at o5 ⊢
    have H5 := Lib.hid (Nil.trans H4.out o5)
    clear hw5 o5
    refine (basicR_any 1 w5).mono ?_
    rintro e w6 ⟨rfl, ho6⟩
    go_wp2_with fail
    refine (arrR_any (U := Any) 1023 1 0 ⟨#[]⟩ (Nat.zero_le _) (.slice none 0 0) [] w6 (TyS.nil Any w6)).mono ?_
    rintro e w7 ⟨g7, rfl, hT7, ho7⟩
    have H7 := Lib.hid (Nil.trans H5.out (Nil.trans ho6 ho7))
    clear ho6 ho7
    go_wp2_with fail
    refine (arrR_any (U := Any) 16 7 1023 ⟨#[]⟩ (Nat.zero_le _) _ _ w7 hT7).mono ?_
    rintro e w8 ⟨g8, rfl, hT8, ho8⟩
    have H8 := Lib.hid (Nil.trans H7.out ho8)
    have HT8 := Lib.hid hT8
    clear hT7 ho8 hT8
    obtain ⟨e9, he9⟩ : ∃ e9 : Nat, (16 : Int) + d = (e9 : Int) := ⟨(16 + d).toNat, by have := HD.out; omega⟩
    have HE9 := Lib.hid he9
    go_wp2_with fail
    refine (basicR_any 1 w8).mono ?_
    rintro e wb ⟨rfl, hob⟩
    go_wp2_with fail
    rw [show wrap64 (e9 : Int) = (e9 : Int) by have h1 := HE9.out; have h2 := HD.out; unfold wrap64; omega]
    refine (arrR_any (U := Any) (e9 : Int) 1 0 ⟨#[]⟩ (Nat.zero_le _) (.slice none 0 0) [] wb (TyS.nil Any wb)).mono ?_
    rintro e w9 ⟨g9, rfl, hT9, ho9⟩
    have H9 := Lib.hid (Nil.trans H8.out (Nil.trans hob ho9))
    have hT89 := HT8.out.go (Nil.trans hob ho9)
    have HT9 := Lib.hid hT9
    have HT89 := Lib.hid hT89
    clear hob ho9 hT9 hT89 he9
    go_upto_region 7 with fail
    obtain ⟨bf, hbf⟩ : ∃ z, w9.heap.size = z := ⟨_, rfl⟩
    have hF := Blk.new w9 #[.string ⟨#[97]⟩, .bool false, .int .i64 7, .int .i64 16, .string ⟨#[]⟩, .slice (some ⟨g8, 0, none⟩) 1 1, .string ⟨#[98]⟩, .bool false, .int .i64 7, .int .i64 (e9 : Int), .string ⟨#[]⟩, .slice (some ⟨g9, 0, none⟩) 1 1] 47
    have o10 := alloc0 w9 (.cells #[.string ⟨#[97]⟩, .bool false, .int .i64 7, .int .i64 16, .string ⟨#[]⟩, .slice (some ⟨g8, 0, none⟩) 1 1, .string ⟨#[98]⟩, .bool false, .int .i64 7, .int .i64 (e9 : Int), .string ⟨#[]⟩, .slice (some ⟨g9, 0, none⟩) 1 1] 47)
    have s10 : (w9.alloc (.cells #[.string ⟨#[97]⟩, .bool false, .int .i64 7, .int .i64 16, .string ⟨#[]⟩, .slice (some ⟨g8, 0, none⟩) 1 1, .string ⟨#[98]⟩, .bool false, .int .i64 7, .int .i64 (e9 : Int), .string ⟨#[]⟩, .slice (some ⟨g9, 0, none⟩) 1 1] 47)).heap.size = bf + 1 := by simp [hbf]
    rw [hbf] at hF ⊢
    obtain ⟨w10, hw10⟩ : ∃ z, w9.alloc (.cells #[.string ⟨#[97]⟩, .bool false, .int .i64 7, .int .i64 16, .string ⟨#[]⟩, .slice (some ⟨g8, 0, none⟩) 1 1, .string ⟨#[98]⟩, .bool false, .int .i64 7, .int .i64 (e9 : Int), .string ⟨#[]⟩, .slice (some ⟨g9, 0, none⟩) 1 1] 47) = z := ⟨_, rfl⟩
    rw [hw10] at hF o10 s10 ⊢
    clear hw10
    have hR := Blk.new w10 #[.string ⟨#[]⟩, .bool false, .string ⟨#[]⟩, .slice (some ⟨bf, 0, none⟩) 2 2] 49
    have o11 := alloc0 w10 (.cells #[.string ⟨#[]⟩, .bool false, .string ⟨#[]⟩, .slice (some ⟨bf, 0, none⟩) 2 2] 49)
    rw [s10] at hR
    obtain ⟨w11, hw11⟩ : ∃ z, w10.alloc (.cells #[.string ⟨#[]⟩, .bool false, .string ⟨#[]⟩, .slice (some ⟨bf, 0, none⟩) 2 2] 49) = z := ⟨_, rfl⟩
    rw [hw11] at hR o11 ⊢
    clear hw11
    have hF11 := hF.kept o11 (fun h => h)
    have oM := alloc0 w11 (.map #[] 0)
    have hMk := RMk.made w11 (fun _ => .slice none 0 0)
    have c0 : (w11.alloc (.map #[] 0)).cell? ⟨bf + 1, 0, none⟩ = some (.string ⟨#[]⟩) := (hR.kept oM (fun h => h)).cell 0
    have c1 : (w11.alloc (.map #[] 0)).cell? ⟨bf + 1, 1, none⟩ = some (.bool false) := (hR.kept oM (fun h => h)).cell 1
    have c2 : (w11.alloc (.map #[] 0)).cell? ⟨bf + 1, 2, none⟩ = some (.string ⟨#[]⟩) := (hR.kept oM (fun h => h)).cell 2
    have c3 : (w11.alloc (.map #[] 0)).cell? ⟨bf + 1, 3, none⟩ = some (.slice (some ⟨bf, 0, none⟩) 2 2) := (hR.kept oM (fun h => h)).cell 3
    have d0 : w11.cell? ⟨bf + 1, 0, none⟩ = some (.string ⟨#[]⟩) := hR.cell 0
    have d1 : w11.cell? ⟨bf + 1, 1, none⟩ = some (.bool false) := hR.cell 1
    have d2 : w11.cell? ⟨bf + 1, 2, none⟩ = some (.string ⟨#[]⟩) := hR.cell 2
    have d3 : w11.cell? ⟨bf + 1, 3, none⟩ = some (.slice (some ⟨bf, 0, none⟩) 2 2) := hR.cell 3
    have clt := hR.lt
    have flt := hF11.lt
    have OM := Nil.trans (Nil.trans o10 o11) oM
    have hV : VarS (fun k => k ≠ w11.heap.size) (w11.alloc (.map #[] 0)) (.slice (some ⟨bf, 0, none⟩) 2 2) (gR e9).fields := by
      refine VarS.of_blk (gR e9).fields (fun i => if i = 0 then .slice (some ⟨g8, 0, none⟩) 1 1 else .slice (some ⟨g9, 0, none⟩) 1 1) (hF11.kept oM (fun h => h)) (by omega) (V := fun k => k < w11.heap.size) (fun i x hi => ?_) (fun k hk => by show k ≠ _; have : k < w11.heap.size := hk; omega) (by intro x hx; simp only [gR, List.mem_cons, List.not_mem_nil, or_false] at hx; rcases hx with rfl | rfl <;> exact ⟨by show 1 ≤ maxLen; decide, Nat.zero_le _⟩) (by show 2 * 80 ≤ _; decide)
      have h8 := (HT89.out.go (Nil.trans o10 o11)).lts.go oM
      have h9 := (HT9.out.go (Nil.trans o10 o11)).lts.go oM
      have hil := (List.getElem?_eq_some_iff.1 hi).1
      match i, hi with
      | 0, hi =>
        have e : (⟨⟨#[97]⟩, false, arr 16 (arr 1023 (bas 1))⟩ : Vr) = x := by simpa [gR] using hi
        subst e
        exact h8.mono (fun k hk => hk.2)
      | 1, hi =>
        have e : (⟨⟨#[98]⟩, false, arr (e9 : Int) (bas 1)⟩ : Vr) = x := by simpa [gR] using hi
        subst e
        exact h9.mono (fun k hk => hk.2)
      | i + 2, hi => simp [gR] at hil; omega
    obtain ⟨w12, run12, hMk12, o12⟩ := hMk.put mrB (by decide) (gR e9) (by show (0 : Nat) ≤ _ ∧ (0 : Nat) ≤ _; exact ⟨Nat.zero_le _, Nat.zero_le _⟩) (.slice (some ⟨bf, 0, none⟩) 2 2) hV (by decide)
    have n1 : (if ((fun _ => none : Recs) mrB).isSome then 0 else 0 + 1) = 1 := rfl
    rw [n1] at hMk12
    have run12' : (Instr.mapUpdate 31 (.map (some w11.heap.size)) (.string ⟨#[77, 46, 82]⟩) (.agg #[.string ⟨#[]⟩, .bool false, .string ⟨#[]⟩, .slice (some ⟨bf, 0, none⟩) 2 2])).run Tryd.prog (w11.alloc (.map #[] 0)) = .ok () w12 := run12
    have H12 := Lib.hid (Nil.trans H9.out (OM.trans o12 (fun k hk h => by
      have h1 : k = w11.heap.size := h
      have h2 := (Nil.trans o10 o11).size
      omega)))
    have hE : 1 ≤ e9 ∧ e9 ≤ 20 := by have h1 := HE9.out; have h2 := HD.out; omega
    have CW := wordsP_any hMk12.rmap (Fg e9) (by decide) (TyS.nil Any w12) 8 0 mrB (by decide) w12 (Only.refl _ _)
    have ew : wordsM (updR (fun _ => none) mrB (gR e9)) 1 (Ty.mk 8 0 mrB []) = if e9 ≤ 16 then some (16368 + e9) else none := great_rec e9 hE.1 hE.2
    rw [ew] at CW
    have mkm : ∀ w, (Instr.makeMap 31 none).run Tryd.prog w = .ok (.map (some w.heap.size)) (w.alloc (.map #[] 0)) := fun w => by
      simp [Instr.makeMap, run_underlying Tryd.underlying31, Result.andThen]
    have HCW := Lib.hid CW
    have HR12 := Lib.hid run12'
    clear hF o10 s10 hR o11 hF11 oM hMk OM hV run12 hMk12 o12 n1 hE CW ew hbf
    have run12 := HR12.out
    go_wp2_with fail
    refine HCW.out.mono ?_
    rintro e w13 ⟨rfl, ho13⟩
    have H13 := Lib.hid (Nil.trans H12.out ho13)
    clear run12 c0 c1 c2 c3 d0 d1 d2 d3 clt flt mkm ho13 HCW
    by_cases h16 : e9 ≤ 16
    · rw [if_pos h16]
      simp only [Option.getD_some, Option.isSome_some]
      have hd : d ≤ 0 := by have := HE9.out; omega
      have hp : wrap64 (16384 + d) = ((16368 + e9 : Nat) : Int) := by have := HE9.out; have := HD.out; unfold wrap64; omega
      obtain ⟨p, hpp⟩ : ∃ p, 16368 + e9 = p := ⟨_, rfl⟩
      rw [hpp] at hp ⊢
      clear h16 hpp
      go_wp2_with fail
      go_ret
      exact ⟨by simp [hd, hp], H13.out⟩
    · rw [if_neg h16]
      simp only [Option.getD_none, Option.isSome_none]
      have hd : ¬ d ≤ 0 := by have := HE9.out; omega
      clear h16
      go_wp2_with fail
      go_ret
      exact ⟨by simp [hd], H13.out⟩
end Go.Proofs.YtcbeibhmjokecaaDoor
