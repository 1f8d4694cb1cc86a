/- The chapter's example: known is true. -/
import Derived.Test.YtcbeibhmjokecaaDoorYKnow
set_option linter.unusedSimpArgs false
set_option linter.unusedVariables false
namespace Go.Proofs.YtcbeibhmjokecaaDoor
open Go.RowKit M

set_option maxRecDepth 20000 in
set_option maxHeartbeats 3200000 in
theorem known12_any (w : World) (hT : Tabs w) : Calls Tryd.prog 8 #[] w fun e w' => e = .returned (.bool true) ∧ Only Nil w w' := by
  have HT := Lib.hid hT
  clear hT
  have mkm : ∀ w, (Instr.makeMap 31 none).run Tryd.prog w = .ok (.map (some w.heap.size)) (w.alloc (.map #[] 0)) := fun w => by
    simp [Instr.makeMap, run_underlying Tryd.underlying31, Result.andThen]
  go_enter Tryd.func8, Tryd.ntmps8
  go_wp2_with fail
  refine (basicR_any 2 w).mono ?_
  rintro e w1 ⟨rfl, ho1⟩
  go_wp2_with fail
  refine (arrR_any 3 2 0 ⟨#[]⟩ (Nat.zero_le _) (.slice none 0 0) [] w1 (TyS.nil Any w1)).mono ?_
  rintro e w2 ⟨g, rfl, hT2, ho2⟩
  have H2 := Lib.hid (Nil.trans ho1 ho2)
  have HTY := Lib.hid hT2
  clear ho1 ho2 hT2
  go_upto_region 2 with fail
  obtain ⟨bt, hbt⟩ : ∃ z, w2.heap.size = z := ⟨_, rfl⟩
  have hB := Blk.new w2 #[.int .i64 7, .int .i64 3, .string ⟨#[]⟩, .slice (some ⟨g, 0, none⟩) 1 1] 25
  have o3 := alloc0 w2 (.cells #[.int .i64 7, .int .i64 3, .string ⟨#[]⟩, .slice (some ⟨g, 0, none⟩) 1 1] 25)
  rw [hbt] at hB ⊢
  obtain ⟨w3, hw3⟩ : ∃ z, w2.alloc (.cells #[.int .i64 7, .int .i64 3, .string ⟨#[]⟩, .slice (some ⟨g, 0, none⟩) 1 1] 25) = z := ⟨_, rfl⟩
  rw [hw3] at hB o3 ⊢
  clear hw3
  have HB3 := Lib.hid hB
  have H3 := Lib.hid (Nil.trans H2.out o3)
  have HTY3 := Lib.hid (HTY.out.go o3)
  -- the map and the block of the one field
  have o4 := alloc0 w3 (.map #[] 0)
  have hMk := RMk.made w3 (fun _ => .slice none 0 0)
  have s4 : (w3.alloc (.map #[] 0)).heap.size = w3.heap.size + 1 := by simp
  have o5 := alloc0 (w3.alloc (.map #[] 0)) (.cells #[.string ⟨#[120]⟩, .bool false, .int .i64 7, .int .i64 3, .string ⟨#[]⟩, .slice (some ⟨g, 0, none⟩) 1 1] 47)
  have hB5 := Blk.new (w3.alloc (.map #[] 0)) #[.string ⟨#[120]⟩, .bool false, .int .i64 7, .int .i64 3, .string ⟨#[]⟩, .slice (some ⟨g, 0, none⟩) 1 1] 47
  rw [s4] at hB5
  have hMk5 := hMk.go o5
  have O35 := Nil.trans o4 o5
  have hTl : TyS (fun k => k ≠ w3.heap.size) ((w3.alloc (.map #[] 0)).alloc (.cells #[.string ⟨#[120]⟩, .bool false, .int .i64 7, .int .i64 3, .string ⟨#[]⟩, .slice (some ⟨g, 0, none⟩) 1 1] 47)) (.slice (some ⟨g, 0, none⟩) 1 1) [bas 2] :=
    ((HTY3.out.lts.go O35).mono (fun k hk => by have := hk.2; omega))
  obtain ⟨w6, run6, hMk6, o6⟩ := hMk5.put mrB (by decide) rR (by decide) (.slice (some ⟨w3.heap.size + 1, 0, none⟩) 1 1)
    (VarS.one ⟨xB, false, t12⟩ (.slice (some ⟨g, 0, none⟩) 1 1) hB5 (by omega) hTl (fun _ h => h) (by decide)) (by decide)
  have n1 : (if ((fun _ => none : Recs) mrB).isSome then 0 else 0 + 1) = 1 := rfl
  rw [n1] at hMk6
  obtain ⟨w7, run7, hMk7, o7⟩ := hMk6.put msB (by decide) rS (by decide) (.slice none 0 0) (VarS.nil _ _) (by decide)
  have n0 : (updR (fun _ => none) mrB rR msB).isSome = false := by unfold updR; rw [if_neg (Ne.symm mr_ne)]; rfl
  have n2 : (if (updR (fun _ => none) mrB rR msB).isSome then 1 else 1 + 1) = 2 := by rw [n0]; rfl
  clear n0
  rw [n2] at hMk7
  have run6' : (Instr.mapUpdate 31 (.map (some w3.heap.size)) (.string ⟨#[77, 46, 82]⟩) (.agg #[.string ⟨#[82]⟩, .bool false, .string ⟨#[]⟩, .slice (some ⟨w3.heap.size + 1, 0, none⟩) 1 1])).run Tryd.prog ((w3.alloc (.map #[] 0)).alloc (.cells #[.string ⟨#[120]⟩, .bool false, .int .i64 7, .int .i64 3, .string ⟨#[]⟩, .slice (some ⟨g, 0, none⟩) 1 1] 47)) = .ok () w6 := run6
  have run7' : (Instr.mapUpdate 31 (.map (some w3.heap.size)) (.string ⟨#[77, 46, 83]⟩) (.agg #[.string ⟨#[83]⟩, .bool false, .string ⟨#[77, 46, 82]⟩, .slice none 0 0])).run Tryd.prog w6 = .ok () w7 := run7
  have o37 : Only Nil w3 w7 := (O35.trans o6 (fun k hk h => by have : k = w3.heap.size := h; omega)).trans o7 (fun k hk h => by have : k = w3.heap.size := h; omega)
  have c0 : w3.cell? ⟨bt, 0, none⟩ = some (.int .i64 7) := hB.cell 0
  have c1 : w3.cell? ⟨bt, 1, none⟩ = some (.int .i64 3) := hB.cell 1
  have c2 : w3.cell? ⟨bt, 2, none⟩ = some (.string ⟨#[]⟩) := hB.cell 2
  have c3 : w3.cell? ⟨bt, 3, none⟩ = some (.slice (some ⟨g, 0, none⟩) 1 1) := hB.cell 3
  have clt := hB.lt
  have HM7 := Lib.hid hMk7
  have HO7 := Lib.hid o37
  clear hbt hB o3 o4 hMk s4 o5 hB5 hMk5 O35 hTl run6 hMk6 o6 n1 run7 hMk7 o7 n2 o37
  go_upto_region 3 with fail
  obtain ⟨mb, hmb⟩ : ∃ z, w3.heap.size = z := ⟨_, rfl⟩
  have HM : Hid (RMap Any w7 (.map (some mb)) 2 R12 (updF (updF (fun _ => .slice none 0 0) mrB (.slice (some ⟨w3.heap.size + 1, 0, none⟩) 1 1)) msB (.slice none 0 0))) := Lib.hid (by rw [← hmb]; exact HM7.out.rmap)
  obtain ⟨fv, hfv⟩ : ∃ z, updF (updF (fun _ => .slice none 0 0) mrB (.slice (some ⟨w3.heap.size + 1, 0, none⟩) 1 1)) msB (.slice none 0 0) = z := ⟨_, rfl⟩
  rw [hfv] at HM
  rw [hmb]
  have HT7 := Lib.hid (HT.out.kept (Nil.trans H3.out HO7.out))
  have HB7 := Lib.hid (HB3.out.kept HO7.out (fun h => h))
  have HTY7 := Lib.hid (HTY3.out.go HO7.out)
  have CW : ∀ w', Only Nil w7 w' → Calls Tryd.prog 18 #[.agg #[.int .i64 8, .int .i64 0, .string ⟨#[77, 46, 83]⟩, .slice none 0 0], .map (some mb)] w' fun e w'' => e = .returned (.tuple #[.int .i64 3, .bool true]) ∧ Only Nil w' w'' := fun w' h => by
    have := wordsP_any HM.out F12 (by decide) (TyS.nil Any w7) 8 0 msB (by decide) w' h
    rw [words12] at this
    exact this
  have CF : ∀ w', Only Nil w7 w' → Calls Tryd.prog 11 #[.string ⟨#[77, 46, 83]⟩, .map (some mb)] w' (FldPost w' (some [⟨xB, false, t12⟩])) := fun w' h => by
    have := fieldsP_any HM.out F12 (by decide) msB (by decide) w' h
    rw [fields12] at this
    exact this
  have CE1 : ∀ w', Only Nil w7 w' → Calls Tryd.prog 14 #[.string ⟨#[77, 46, 83]⟩, .string ⟨#[77, 46, 82]⟩, .map (some mb)] w' fun e w'' => e = .returned (.bool true) ∧ Only Nil w' w'' := fun w' h => by
    have := extP_any HM.out mrB msB (by decide) w' h
    rw [show extM R12 mrB (2 + 1) msB = true from ext12a] at this
    exact this
  have CE2 : ∀ w', Only Nil w7 w' → Calls Tryd.prog 14 #[.string ⟨#[77, 46, 82]⟩, .string ⟨#[77, 46, 83]⟩, .map (some mb)] w' fun e w'' => e = .returned (.bool false) ∧ Only Nil w' w'' := fun w' h => by
    have := extP_any HM.out msB mrB (by decide) w' h
    rw [show extM R12 msB (2 + 1) mrB = false from ext12b] at this
    exact this
  have CT : ∀ w', Only Nil w7 w' → Calls Tryd.prog 26 #[.agg #[.int .i64 7, .int .i64 3, .string ⟨#[]⟩, .slice (some ⟨g, 0, none⟩) 1 1]] w' fun e w'' => e = .returned (.string ⟨#[65, 82, 82, 65, 89, 32, 51, 32, 79, 70, 32, 67, 72, 65, 82]⟩) ∧ Only Nil w' w'' := fun w' h => by
    refine (textP_arr 3 (by decide) (by decide) 2 (by decide) ⟨#[]⟩ _ w' (HT7.out.kept h) (HTY7.out.go h)).mono ?_
    rintro e w'' ⟨rfl, h2⟩
    exact ⟨str_of text12, h2⟩
  have CR : ∀ w', Only Nil w7 w' → Calls Tryd.prog 27 #[.agg #[.int .i64 7, .int .i64 3, .string ⟨#[]⟩, .slice (some ⟨g, 0, none⟩) 1 1]] w' fun e w'' => e = .returned (.bool true) ∧ Only Nil w' w'' := fun w' h => by
    have := rightP_any HTY7.out 7 3 ⟨#[]⟩ w' h
    rw [show rightB (.mk 7 3 ⟨#[]⟩ [.mk 2 0 ⟨#[]⟩ []]) = true from right12] at this
    exact this
  have CS : ∀ w', Only Nil w7 w' → Calls Tryd.prog 28 #[.agg #[.int .i64 7, .int .i64 3, .string ⟨#[]⟩, .slice (some ⟨g, 0, none⟩) 1 1], .agg #[.int .i64 7, .int .i64 3, .string ⟨#[]⟩, .slice (some ⟨g, 0, none⟩) 1 1]] w' fun e w'' => e = .returned (.bool true) ∧ Only Nil w' w'' := fun w' h => by
    have := sameP_any (V := Any) HTY7.out _ [.mk 2 0 ⟨#[]⟩ []] 7 3 7 3 ⟨#[]⟩ ⟨#[]⟩ w' HTY7.out h
    rw [show sameB (.mk 7 3 ⟨#[]⟩ [.mk 2 0 ⟨#[]⟩ []]) (.mk 7 3 ⟨#[]⟩ [.mk 2 0 ⟨#[]⟩ []]) = true from same12] at this
    exact this
  have CX : ∀ w', Only Nil w7 w' → Calls Tryd.prog 21 #[.agg #[.int .i64 7, .int .i64 3, .string ⟨#[]⟩, .slice (some ⟨g, 0, none⟩) 1 1], .agg #[.int .i64 1, .int .i64 0, .string ⟨#[]⟩, .slice none 0 0], .map (some mb)] w' fun e w'' => e = .returned (.bool false) ∧ Only Nil w' w'' := fun w' h => by
    have := fitsP_any (V := Any) HM.out HTY7.out (TyS.nil Any w7) 7 3 1 0 ⟨#[]⟩ ⟨#[]⟩ (by decide) w' h
    rw [show fitsM R12 2 (.mk 7 3 ⟨#[]⟩ [.mk 2 0 ⟨#[]⟩ []]) (.mk 1 0 ⟨#[]⟩ []) = false from fits12] at this
    exact this
  have HCW := Lib.hid CW
  have HCF := Lib.hid CF
  have HE1 := Lib.hid CE1
  have HE2 := Lib.hid CE2
  have HCT := Lib.hid CT
  have HCR := Lib.hid CR
  have HCS := Lib.hid CS
  have HCX := Lib.hid CX
  clear CW CF CE1 CE2 CT CR CS CX run6' run7' c0 c1 c2 c3 clt hfv hmb HM7 mkm
  go_wp2_with fail
  refine (HCW.out _ (Only.refl _ _)).mono ?_
  rintro e w8 ⟨rfl, ho8⟩
  have H8 := Lib.hid ho8
  clear ho8
  go_wp2_with fail
  refine (HCF.out _ H8.out).mono ?_
  rintro e w9 ⟨fl, rfl, hfl, ho9⟩
  obtain ⟨aoF, capF, eF⟩ := hfl.slice
  have eF : fl = .slice aoF 1 capF := eF
  subst eF
  have H9 := Lib.hid (Nil.trans H8.out ho9)
  clear ho9 hfl
  have eb : (some [(⟨xB, false, t12⟩ : Vr)]).isSome = true := rfl
  rw [eb]
  clear eb
  go_wp2_with fail
  have hB9 := HB7.out.kept H9.out (fun h => h)
  have b0 := fun n' : NilW w9 => n'.cell (show w9.cell? ⟨bt, 0, none⟩ = some (.int .i64 7) from hB9.cell 0)
  have b1 := fun n' : NilW w9 => n'.cell (show w9.cell? ⟨bt, 1, none⟩ = some (.int .i64 3) from hB9.cell 1)
  have b2 := fun n' : NilW w9 => n'.cell (show w9.cell? ⟨bt, 2, none⟩ = some (.string ⟨#[]⟩) from hB9.cell 2)
  have b3 := fun n' : NilW w9 => n'.cell (show w9.cell? ⟨bt, 3, none⟩ = some (.slice (some ⟨g, 0, none⟩) 1 1) from hB9.cell 3)
  clear hB9
  have fld : ∀ w : World, (Instr.field 25 (.agg #[.int .i64 1, .int .i64 0, .string ⟨#[]⟩, .slice none 0 0]) 0).run Tryd.prog w = .ok (.int .i64 1) w := fun w => by kernel_rfl
  refine wp_region_nilq (by kernel_rfl) (by kernel_rfl) ?_
  repeat (quiet_step (first
    | (go_at_call 26; exact Calls.nilq_of (HCT.out _ (Nil.trans H9.out (NilW.only _))))
    | (go_at_call 27; exact Calls.nilq_of (HCR.out _ (Nil.trans H9.out (NilW.only _))))
    | (go_at_call 28; exact Calls.nilq_of (HCS.out _ (Nil.trans H9.out (NilW.only _))))
    | (go_at_call 21; exact Calls.nilq_of (HCX.out _ (Nil.trans H9.out (NilW.only _))))
    | (go_at_call 29; exact Calls.nilq_of (basicP_any 1 _))))
  quiet_step ((go_at_call 14; exact Calls.nilq_of (HE1.out _ (Nil.trans H9.out (NilW.only _)))))
  repeat (quiet_step (first
    | (go_at_call 26; exact Calls.nilq_of (HCT.out _ (Nil.trans H9.out (NilW.only _))))
    | (go_at_call 27; exact Calls.nilq_of (HCR.out _ (Nil.trans H9.out (NilW.only _))))
    | (go_at_call 28; exact Calls.nilq_of (HCS.out _ (Nil.trans H9.out (NilW.only _))))
    | (go_at_call 21; exact Calls.nilq_of (HCX.out _ (Nil.trans H9.out (NilW.only _))))
    | (go_at_call 29; exact Calls.nilq_of (basicP_any 1 _))))
  quiet_step ((go_at_call 14; exact Calls.nilq_of (HE2.out _ (Nil.trans H9.out (NilW.only _)))))
  repeat (quiet_step (first
    | (go_at_call 26; exact Calls.nilq_of (HCT.out _ (Nil.trans H9.out (NilW.only _))))
    | (go_at_call 27; exact Calls.nilq_of (HCR.out _ (Nil.trans H9.out (NilW.only _))))
    | (go_at_call 28; exact Calls.nilq_of (HCS.out _ (Nil.trans H9.out (NilW.only _))))
    | (go_at_call 21; exact Calls.nilq_of (HCX.out _ (Nil.trans H9.out (NilW.only _))))
    | (go_at_call 29; exact Calls.nilq_of (basicP_any 1 _))))
  refine wpQuiet_nil ?_
  intro wz hz
  obtain ⟨n3, e3⟩ := hz
  have h3 := n3.only
  rw [← e3] at h3
  clear e3 n3
  have HZ := Lib.hid (Nil.trans (Nil.trans H3.out HO7.out) (Nil.trans H9.out h3))
  clear b0 b1 b2 b3 h3
  go_wp2_with fail
  go_ret
  exact ⟨rfl, HZ.out⟩
end Go.Proofs.YtcbeibhmjokecaaDoor
