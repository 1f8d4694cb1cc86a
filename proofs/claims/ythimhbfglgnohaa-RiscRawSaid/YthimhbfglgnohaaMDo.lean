/- The machine does its next instruction. -/
import Derived.Test.YthimhbfglgnohaaMReckonA
import Derived.Test.YthimhbfglgnohaaMActs
import Derived.Test.YthimhbfglgnohaaMOk
import Derived.Test.YthimhbfglgnohaaRDecI
set_option linter.unusedSimpArgs false
set_option linter.unusedVariables false
namespace Go.Proofs.Ythimhbfglgnohaa
open Go.RowKit M
variable {Q : Nat → Prop}

/-- A word of the code. -/
theorem CRow.word {S : Nat → Prop} {w : World} {v : Value} {l : List Nat} (h : CRow S w v l) {k : Nat} (hk : k < l.length) :
    ∃ b cap off, v = .slice (some ⟨b, off, none⟩) l.length cap ∧ l.length ≤ cap ∧ cap ≤ maxLen ∧ w.cell? ⟨b, off + k, none⟩ = some (.int .u32 (l.getD k 0 : Nat)) := by
  obtain ⟨b, ao, cap, off, h1, h2, h3, h4, h5, h6⟩ := h
  have e := h4 (by omega)
  subst e
  refine ⟨b, cap, off, h1, h2, h3, ?_⟩
  refine h5 k _ ?_
  simp [U32s, List.getD_eq_getElem?_getD, List.getElem?_eq_getElem hk]

/-- Behind the code's end. -/
theorem do_end (mb wb : Nat) (ob : Option Nat) (code : List Nat) (cv iv ov : Value) (s : St) (w : World) (hl : code.length ≤ 1048576) (hM : MAt Q w mb wb ob code s cv iv ov) (hp : ¬ s.pc < code.length) :
    Calls Try.prog 30 #[.pointer (some ⟨mb, 0, none⟩)] w fun e w' => e = .returned (.bool false) ∧ Only Nil w w' := by
  have c25 : w.cell? ⟨mb, 25, none⟩ = some (.int .i64 s.pc) := hM.1.cell 25
  have c0 : w.cell? ⟨mb, 0, none⟩ = some cv := hM.1.cell 0
  obtain ⟨b, ao, cap, off, e1, _⟩ := hM.2.2.2.1
  have hlt := hM.1.lt
  have hge : (code.length : Int) ≤ (s.pc : Int) := by omega
  subst e1
  clear hM hp
  go_enter Try.func30, Try.ntmps30
  go_wp2_with fail
  go_quiet (fail)
  go_wp2_with fail
  go_ret
  exact ⟨rfl, by (repeat with_reducible first | exact Only.refl _ _ | refine Only.alloc ?_ _ | refine Only.drewN ?_ _ | refine Only.drew ?_)⟩

/-- What a machine's own blocks come to. -/
def Went (w w' : World) (mb wb : Nat) (ob ob' : Option Nat) : Prop := Only (Own3 mb wb ob) w w' ∧ (ob' = ob ∨ ∃ k, ob' = some k ∧ w.heap.size ≤ k)
theorem Went.trans {w1 w2 w3 : World} {mb wb : Nat} {o1 o2 o3 : Option Nat} (h : Went w1 w2 mb wb o1 o2) (k : Went w2 w3 mb wb o2 o3) : Went w1 w3 mb wb o1 o3 := by
  refine ⟨h.1.trans k.1 (fun i hi hi2 => ?_), ?_⟩
  · rcases hi2 with h1 | h1 | h1
    · exact Or.inl h1
    · exact Or.inr (Or.inl h1)
    · rcases h.2 with h2 | ⟨j, h2, h3⟩
      · rw [h2] at h1; exact Or.inr (Or.inr h1)
      · rw [h2] at h1; injection h1 with h1; omega
  · rcases k.2 with h2 | ⟨j, h2, h3⟩
    · rw [h2]; exact h.2
    · exact Or.inr ⟨j, h2, Nat.le_trans h.1.size h3⟩
theorem Went.of_one {w w' : World} {mb wb : Nat} {ob : Option Nat} (h : Only (M.One mb) w w') : Went w w' mb wb ob ob := ⟨h.mono (fun _ h => Or.inl h), Or.inl rfl⟩
theorem Went.of_nil {w w' : World} {mb wb : Nat} {ob : Option Nat} (h : Only Nil w w') : Went w w' mb wb ob ob := ⟨h.mono (fun _ h => h.elim), Or.inl rfl⟩
/-- What is done, and what it answers. -/
def Does (Q : Nat → Prop) (w : World) (mb wb : Nat) (ob : Option Nat) (code : List Nat) (cv : Value) (R : Option St) (e : Ending) (w' : World) : Prop :=
  match R with
  | some s' => ∃ ob' iv' ov', e = .returned (.bool true) ∧ Went w w' mb wb ob ob' ∧ MAt Q w' mb wb ob' code s' cv iv' ov'
  | none => e = .returned (.bool false) ∧ Only Nil w w'

theorem exec_3 (s : St) (u v : Bool) (a b c o : Int) (m : Int) : exec s ⟨3, u, v, a, b, c, o, m⟩ = M.branch s ⟨3, u, v, a, b, c, o, m⟩ := by
  unfold exec; rw [if_pos rfl]
theorem exec_2t (s : St) (v : Bool) (a b c o : Int) (m : Int) : exec s ⟨2, true, v, a, b, c, o, m⟩ = (M.store s ⟨2, true, v, a, b, c, o, m⟩).map M.next := by
  unfold exec; rw [if_neg (by show ¬ ((2 : Int) = 3); decide), if_pos rfl, if_pos rfl]
theorem exec_2f (s : St) (v : Bool) (a b c o : Int) (m : Int) : exec s ⟨2, false, v, a, b, c, o, m⟩ = (M.load s ⟨2, false, v, a, b, c, o, m⟩).map M.next := by
  unfold exec; rw [if_neg (by show ¬ ((2 : Int) = 3); decide), if_pos rfl, if_neg (by show ¬ (false = true); decide)]
theorem exec_01 (s : St) (F : Int) (hF : F = 0 ∨ F = 1) (u v : Bool) (a b c o : Int) (m : Int) : exec s ⟨F, u, v, a, b, c, o, m⟩ = (M.reckon s ⟨F, u, v, a, b, c, o, m⟩).map M.next := by
  unfold exec; rw [if_neg (by show ¬ (F = 3); omega), if_neg (by show ¬ (F = 2); omega)]

/-- An instruction is stored, field by field. -/
theorem Blk.ins {w : World} {b : Nat} {t : TypeId} {F0 A0 B0 C0 O0 m0 F A B C o m : Value} {u0 v0 u v : Value} (h : Blk w b #[F0, u0, v0, A0, B0, C0, O0, m0] t) :
    Blk ((((((((w.setCell ⟨b, 0, none⟩ F).setCell ⟨b, 1, none⟩ u).setCell ⟨b, 2, none⟩ v).setCell ⟨b, 3, none⟩ A).setCell ⟨b, 4, none⟩ B).setCell ⟨b, 5, none⟩ C).setCell ⟨b, 6, none⟩ o).setCell ⟨b, 7, none⟩ m) b #[F, u, v, A, B, C, o, m] t := by
  have h1 := (((((((h.setCell 0 F).setCell 1 u).setCell 2 v).setCell 3 A).setCell 4 B).setCell 5 C).setCell 6 o).setCell 7 m
  simp only [List.setIfInBounds_toArray, List.set_cons_zero, List.set_cons_succ] at h1
  exact h1

theorem Only.setOne' {mb wb : Nat} {ob : Option Nat} {w w' : World} {o : Nat} {u : Value} (h : Only (Own3 mb wb ob) w w') : Only (Own3 mb wb ob) w (w'.setCell ⟨mb, o, none⟩ u) := h.setCell' _ (Or.inl rfl) u

set_option maxHeartbeats 6400000 in
/-- A word is decoded, and done. -/
theorem do_word (mb wb : Nat) (ob : Option Nat) (code : List Nat) (cv iv ov : Value) (s : St) (w : World) (hs : s.Ok) (hc : ∀ x ∈ code, x < 4294967296) (hl : code.length ≤ 1048576) (hM : MAt Q w mb wb ob code s cv iv ov) (hp : s.pc < code.length) (hol : s.out.length ≤ 1099511627776) {R : Option St} (hR : doIt code s = R) :
    Calls Try.prog 30 #[.pointer (some ⟨mb, 0, none⟩)] w fun e w' => Does Q w mb wb ob code cv R e w' := by
  have c25 : w.cell? ⟨mb, 25, none⟩ = some (.int .i64 s.pc) := hM.1.cell 25
  have c0 : w.cell? ⟨mb, 0, none⟩ = some cv := hM.1.cell 0
  obtain ⟨b, cap, off, e1, e2, e3, e4⟩ := hM.2.2.2.1.word hp
  have hlt := hM.1.lt
  have hlt2 : (s.pc : Int) < (code.length : Int) := by omega
  have hx : code.getD s.pc 0 < 4294967296 := getD_lt hc (by decide)
  have p0 : (0 : Int) ≤ (s.pc : Int) := Int.natCast_nonneg _
  subst e1
  have cD := fun w => decI_any _ w hx
  obtain ⟨x, hxx⟩ : ∃ x, code.getD s.pc 0 = x := ⟨_, rfl⟩
  rw [hxx] at e4 cD hx
  have HX := Lib.hid hxx
  obtain ⟨ok, hok⟩ : ∃ ok, isOk x = ok := ⟨_, rfl⟩
  rw [hok] at cD
  obtain ⟨F, u, v, A, B, C, o, m, hI⟩ : ∃ F u v A B C o m, decI x = ⟨F, u, v, A, B, C, o, m⟩ := ⟨_, _, _, _, _, _, _, _, rfl⟩
  rw [hI] at cD
  unfold Ins.val Ins.cells at cD
  simp only at cD
  have hno : Hid (ok = false → R = none) := Lib.hid (fun h => by
    rw [← hR]; unfold doIt; rw [if_pos hp, hxx, hok, h]; rfl)
  have hyes : Hid (ok = true → R = exec s ⟨F, u, v, A, B, C, o, m⟩ ∧ Fields ⟨F, u, v, A, B, C, o, m⟩) := Lib.hid (fun h => by
    have h2 := hI
    rw [decI_yes (by rw [hok, h])] at h2
    refine ⟨?_, ?_⟩
    · rw [← hR]; unfold doIt; rw [if_pos hp, hxx, hok, h, if_pos rfl, h2]
    · rw [← h2]; exact dec_fields hx (by rw [hok, h]))
  have HI := Lib.hid hI
  have HOK := Lib.hid hok
  have HM := Lib.hid hM
  clear hM hxx hI hok
  go_enter Try.func30, Try.ntmps30
  go_wp2_with fail
  go_quiet (fail)
  go_wp2_with fail
  have ho2 : Only Nil w (w.drewN nq) := M.Only.drewN (Only.refl _ _) _
  obtain ⟨w2, hw2⟩ : ∃ w2, w.drewN nq = w2 := ⟨_, rfl⟩
  rw [hw2] at ho2 ⊢
  have d25 := ho2.cell c25 (fun h => h)
  have d0 := ho2.cell c0 (fun h => h)
  have d4 := ho2.cell e4 (fun h => h)
  have hsz := ho2.size
  have hlm : mb < w2.heap.size := by omega
  have hlb : b < w2.heap.size := World.block_lt_of_cell? w2 _ d4
  have HO := Lib.hid ho2
  have HSZ := Lib.hid hsz
  clear c25 c0 e4 hw2 ho2 hsz
  go_cut [3, 4] (fun s3 s4 wx => ∃ ib, s3 = .pointer (some ⟨ib, 0, none⟩) ∧ s4 = .bool ok ∧ w.heap.size ≤ ib ∧ Blk wx ib #[.int .i64 F, .bool u, .bool v, .int .i64 A, .int .i64 B, .int .i64 C, .int .i64 o, .int .i32 m] 49 ∧ Only Nil w wx)
  case first =>
    go_region_with (first | (go_at_call 41; refine (cD _).mono ?_; rintro e w6 ⟨rfl, ho6⟩; (try (have hB6 := (Blk.drew (Blk.new w2 _ _)).kept ho6 (fun h => h); have k0 := hB6.cell 0; have z0 := hB6.free 0; have k1 := hB6.cell 1; have z1 := hB6.free 1; have k2 := hB6.cell 2; have z2 := hB6.free 2; have k3 := hB6.cell 3; have z3 := hB6.free 3; have k4 := hB6.cell 4; have z4 := hB6.free 4; have k5 := hB6.cell 5; have z5 := hB6.free 5; have k6 := hB6.cell 6; have z6 := hB6.free 6; have k7 := hB6.cell 7; have z7 := hB6.free 7))))
    all_goals (go_wp2_with fail; go_meet)
    all_goals refine ⟨_, rfl, rfl, ?_, ?_, ?_⟩
    all_goals first
      | with_reducible exact HSZ.out
      | with_reducible exact Blk.new w6 _ _
      | with_reducible exact Blk.ins hB6
      | (with_reducible refine Only.alloc ?_ _; exact (HO.out.drew).trans ho6 (fun _ _ h => h))
      | ((repeat with_reducible refine Only.setCell ?_ (fun h => absurd h (Nat.not_lt.2 HSZ.out)) _); exact ((HO.out.alloc _).drew).trans ho6 (fun _ _ h => h))
      | exact (fun h : w.heap.size ≤ w6.heap.size => h) (Nat.le_trans HSZ.out ho6.size)
  case rest =>
    obtain ⟨ib, rfl, rfl, hib, hBi, hoi⟩ := hcut
    cases ok
    · have hno' := hno.out rfl
      clear hno hyes
      go_wp2_with fail
      go_ret
      rw [hno']
      exact ⟨rfl, hoi⟩
    · obtain ⟨hR', hf⟩ := hyes.out rfl
      obtain ⟨hF, hA, hB, hC, ho, m1, m2, m3, m4⟩ := hf
      simp only at hF hA hB hC ho m1 m2 m3 m4
      obtain ⟨a, rfl⟩ := Int.eq_ofNat_of_zero_le hA.1
      obtain ⟨b', rfl⟩ := Int.eq_ofNat_of_zero_le hB.1
      obtain ⟨c, rfl⟩ := Int.eq_ofNat_of_zero_le hC.1
      obtain ⟨o', rfl⟩ := Int.eq_ofNat_of_zero_le ho.1
      have ha : a < 16 := by omega
      have hb : b' < 16 := by omega
      have hc' : c < 16 := by omega
      have ho' : o' ≤ 15 := by omega
      have hMx := HM.out.quiet hoi
      have x0 := hBi.cell 0
      have x1 := hBi.cell 1
      have x2 := hBi.cell 2
      have x3 := hBi.cell 3
      have x4 := hBi.cell 4
      have x5 := hBi.cell 5
      have x6 := hBi.cell 6
      have x7 := hBi.cell 7
      simp only [List.getElem?_toArray, List.getElem?_cons_zero, List.getElem?_cons_succ] at x0 x1 x2 x3 x4 x5 x6 x7
      have hlx := hMx.1.lt
      have hli := hBi.lt
      have HH := Lib.hid hR'
      have hpc := hs.pc
      clear hno hyes hA hB hC ho cD hR' HM HI hBi hc hl HX HOK d25 d0 d4
      rcases hF with rfl | rfl | rfl | rfl
      · have cX := reckon_of mb wb ob code 0 u v a b' c o' m m1 m2 ha hb _ iv ov s _ hs hMx (Or.inl rfl) ho' (N := s.R c) (hs.reg c hc') (fun w' ho => operand_0 mb u v a b' c o' m _ _ iv ov s w' (hMx.1.kept ho (fun h => h)) hc') rfl (by unfold opnd; rw [if_pos rfl]; rfl)
        have hX := exec_01 s 0 (Or.inl rfl) u v a b' c o' m
        unfold ic at cX
        cases hb' : M.reckon s ⟨0, u, v, a, b', c, o', m⟩ with
        | none =>
          rw [hb'] at cX hX
          simp only [Option.map_none] at cX hX
          have HX := Lib.hid hX
          clear hX hb' hMx m3 m4
          go_wp2_with fail
          refine cX.mono ?_
          rintro e w3 ⟨rfl, ho3⟩
          clear cX
          go_wp2_with fail
          go_ret
          rw [HH.out, HX.out]
          exact ⟨rfl, hoi.trans ho3 (fun _ _ h => h)⟩
        | some s' =>
          rw [hb'] at cX hX
          simp only [Option.map_some] at cX hX
          have HX := Lib.hid hX
          have hk : s'.pc = s.pc := (reckon_keeps hs (by show (b' : Int).toNat < 16; omega) (by show (c : Int).toNat < 16; omega) hb').1
          clear hX hb' hMx m3 m4
          go_wp2_with fail
          refine cX.mono ?_
          rintro e w3 ⟨rfl, ho3, hM3⟩
          clear cX
          have y25 : w3.cell? ⟨mb, 25, none⟩ = some (.int .i64 s'.pc) := hM3.1.cell 25
          have z25 := hM3.1.free 25
          have hl3 := hM3.1.lt
          have hM4 := hM3.pcTo (s'.pc + 1)
          have hpc3 : s'.pc ≤ 1048576 := by rw [hk]; exact hpc
          obtain ⟨pc, hpcv⟩ : ∃ pc, s'.pc = pc := ⟨_, rfl⟩
          rw [hpcv] at y25 hpc3 hM4
          have H4 := Lib.hid hM4
          have HP := Lib.hid hpcv
          have HW := Lib.hid (Went.of_one (wb := wb) (ob := ob) ((hoi.mono (fun _ h => h.elim)).trans ho3 (fun _ _ h => h)))
          clear hM3 hM4 hpcv hk 
          go_wp2_with fail
          go_ret
          rw [HH.out, HX.out]
          have h4 := H4.out
          rw [← HP.out] at h4
          exact ⟨ob, iv, ov, rfl, ⟨Only.setOne' HW.out.1, HW.out.2⟩, (by rw [← HP.out]; exact h4)⟩
      · have cX := reckon_of mb wb ob code 1 u v a b' c o' m m1 m2 ha hb _ iv ov s _ hs hMx (Or.inr rfl) ho' (N := if v then U (m - 65536) else U m) (by split <;> exact U_lt _) (fun w' _ => operand_1 mb u v a b' c o' m w' (m4 rfl).1 (m4 rfl).2) rfl (by unfold opnd; rw [if_neg (by show ¬ ((1 : Int) = 0); decide)])
        have hX := exec_01 s 1 (Or.inr rfl) u v a b' c o' m
        unfold ic at cX
        cases hb' : M.reckon s ⟨1, u, v, a, b', c, o', m⟩ with
        | none =>
          rw [hb'] at cX hX
          simp only [Option.map_none] at cX hX
          have HX := Lib.hid hX
          clear hX hb' hMx m3 m4
          go_wp2_with fail
          refine cX.mono ?_
          rintro e w3 ⟨rfl, ho3⟩
          clear cX
          go_wp2_with fail
          go_ret
          rw [HH.out, HX.out]
          exact ⟨rfl, hoi.trans ho3 (fun _ _ h => h)⟩
        | some s' =>
          rw [hb'] at cX hX
          simp only [Option.map_some] at cX hX
          have HX := Lib.hid hX
          have hk : s'.pc = s.pc := (reckon_keeps hs (by show (b' : Int).toNat < 16; omega) (by show (c : Int).toNat < 16; omega) hb').1
          clear hX hb' hMx m3 m4
          go_wp2_with fail
          refine cX.mono ?_
          rintro e w3 ⟨rfl, ho3, hM3⟩
          clear cX
          have y25 : w3.cell? ⟨mb, 25, none⟩ = some (.int .i64 s'.pc) := hM3.1.cell 25
          have z25 := hM3.1.free 25
          have hl3 := hM3.1.lt
          have hM4 := hM3.pcTo (s'.pc + 1)
          have hpc3 : s'.pc ≤ 1048576 := by rw [hk]; exact hpc
          obtain ⟨pc, hpcv⟩ : ∃ pc, s'.pc = pc := ⟨_, rfl⟩
          rw [hpcv] at y25 hpc3 hM4
          have H4 := Lib.hid hM4
          have HP := Lib.hid hpcv
          have HW := Lib.hid (Went.of_one (wb := wb) (ob := ob) ((hoi.mono (fun _ h => h.elim)).trans ho3 (fun _ _ h => h)))
          clear hM3 hM4 hpcv hk 
          go_wp2_with fail
          go_ret
          rw [HH.out, HX.out]
          have h4 := H4.out
          rw [← HP.out] at h4
          exact ⟨ob, iv, ov, rfl, ⟨Only.setOne' HW.out.1, HW.out.2⟩, (by rw [← HP.out]; exact h4)⟩
      · cases u
        · have cX := load_of mb wb ob code v a b' c o' m m1 m2 ha hb _ iv ov s _ hs hMx
          have hX := exec_2f s v a b' c o' m
          unfold ic at cX
          cases hb' : M.load s ⟨2, false, v, a, b', c, o', m⟩ with
          | none =>
            rw [hb'] at cX hX
            simp only [Option.map_none] at cX hX
            have HX := Lib.hid hX
            clear hX hb' hMx m3 m4
            go_wp2_with fail
            refine cX.mono ?_
            rintro e w3 ⟨rfl, ho3⟩
            clear cX
            go_wp2_with fail
            go_ret
            rw [HH.out, HX.out]
            exact ⟨rfl, hoi.trans ho3 (fun _ _ h => h)⟩
          | some s' =>
            rw [hb'] at cX hX
            simp only [Option.map_some] at cX hX
            have HX := Lib.hid hX
            have hk : s'.pc = s.pc := (load_keeps hb').1
            clear hX hb' hMx m3 m4
            go_wp2_with fail
            refine cX.mono ?_
            rintro e w3 ⟨iv', rfl, ho3, hM3⟩
            clear cX
            have y25 : w3.cell? ⟨mb, 25, none⟩ = some (.int .i64 s'.pc) := hM3.1.cell 25
            have z25 := hM3.1.free 25
            have hl3 := hM3.1.lt
            have hM4 := hM3.pcTo (s'.pc + 1)
            have hpc3 : s'.pc ≤ 1048576 := by rw [hk]; exact hpc
            obtain ⟨pc, hpcv⟩ : ∃ pc, s'.pc = pc := ⟨_, rfl⟩
            rw [hpcv] at y25 hpc3 hM4
            have H4 := Lib.hid hM4
            have HP := Lib.hid hpcv
            have HW := Lib.hid (Went.of_one (wb := wb) (ob := ob) ((hoi.mono (fun _ h => h.elim)).trans ho3 (fun _ _ h => h)))
            clear hM3 hM4 hpcv hk 
            go_wp2_with fail
            go_ret
            rw [HH.out, HX.out]
            have h4 := H4.out
            rw [← HP.out] at h4
            exact ⟨ob, iv', ov, rfl, ⟨Only.setOne' HW.out.1, HW.out.2⟩, (by rw [← HP.out]; exact h4)⟩
        · have cX := store_of mb wb ob code v a b' c o' m m1 m2 ha hb _ iv ov s _ hs hMx hol
          have hX := exec_2t s v a b' c o' m
          unfold ic at cX
          cases hb' : M.store s ⟨2, true, v, a, b', c, o', m⟩ with
          | none =>
            rw [hb'] at cX hX
            simp only [Option.map_none] at cX hX
            have HX := Lib.hid hX
            clear hX hb' hMx m3 m4
            go_wp2_with fail
            refine cX.mono ?_
            rintro e w3 ⟨rfl, ho3⟩
            clear cX
            go_wp2_with fail
            go_ret
            rw [HH.out, HX.out]
            exact ⟨rfl, hoi.trans ho3 (fun _ _ h => h)⟩
          | some s' =>
            rw [hb'] at cX hX
            simp only [Option.map_some] at cX hX
            have HX := Lib.hid hX
            have hk : s'.pc = s.pc := (store_keeps hb').1
            clear hX hb' hMx m3 m4
            go_wp2_with fail
            refine cX.mono ?_
            rintro e w3 ⟨ob', ov', rfl, ho3, hg3, hM3⟩
            clear cX
            have y25 : w3.cell? ⟨mb, 25, none⟩ = some (.int .i64 s'.pc) := hM3.1.cell 25
            have z25 := hM3.1.free 25
            have hl3 := hM3.1.lt
            have hM4 := hM3.pcTo (s'.pc + 1)
            have hpc3 : s'.pc ≤ 1048576 := by rw [hk]; exact hpc
            obtain ⟨pc, hpcv⟩ : ∃ pc, s'.pc = pc := ⟨_, rfl⟩
            rw [hpcv] at y25 hpc3 hM4
            have H4 := Lib.hid hM4
            have HP := Lib.hid hpcv
            have HW := Lib.hid ((Went.of_nil hoi).trans ⟨ho3, hg3⟩)
            clear hM3 hM4 hpcv hk 
            go_wp2_with fail
            go_ret
            rw [HH.out, HX.out]
            have h4 := H4.out
            rw [← HP.out] at h4
            exact ⟨ob', iv, ov', rfl, ⟨Only.setOne' HW.out.1, HW.out.2⟩, (by rw [← HP.out]; exact h4)⟩
      · have cB := branch_of mb wb ob code u v a b' c o' m m1 m2 (m3 rfl) ha hc' _ iv ov s _ hs hMx
        have hX := exec_3 s u v a b' c o' m
        unfold ic at cB
        cases hb' : M.branch s ⟨3, u, v, a, b', c, o', m⟩ with
        | none =>
          rw [hb'] at cB hX
          simp only at cB
          have HX := Lib.hid hX
          clear hX hb' hMx m3 m4
          go_wp2_with fail
          refine cB.mono ?_
          rintro e w3 ⟨rfl, ho3⟩
          clear cB
          go_wp2_with fail
          go_ret
          rw [HH.out, HX.out]
          exact ⟨rfl, hoi.trans ho3 (fun _ _ h => h)⟩
        | some s' =>
          rw [hb'] at cB hX
          simp only at cB
          have HX := Lib.hid hX
          clear hX hb' hMx m3 m4
          go_wp2_with fail
          refine cB.mono ?_
          rintro e w3 ⟨rfl, ho3, hM3⟩
          clear cB
          go_wp2_with fail
          go_ret
          rw [HH.out, HX.out]
          exact ⟨ob, iv, ov, rfl, Went.of_one ((hoi.mono (fun _ h => h.elim)).trans ho3 (fun _ _ h => h)), hM3⟩
end Go.Proofs.Ythimhbfglgnohaa
