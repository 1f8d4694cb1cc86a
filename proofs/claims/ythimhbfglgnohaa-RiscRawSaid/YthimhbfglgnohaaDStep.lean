/- The document's machine's Step: ended, or behind the code's end. -/
import Derived.Test.YthimhbfglgnohaaDReg1
import Derived.Test.YthimhbfglgnohaaMDo
import Derived.Test.YthimhbfglgnohaaDMem
import Derived.Test.YthimhbfglgnohaaDRegF
import Derived.Test.YthimhbfglgnohaaDBranch
import Derived.Test.YthimhbfglgnohaaRDecR
import Derived.Deep.DeepCutAuto
import Derived.Deep.RegionWith
import Derived.Test.YthimhbfglgnohaaDRes
import Derived.Test.YthimhbfglgnohaaDSee
import Derived.Deep.LoopGhost
set_option linter.unusedSimpArgs false
set_option linter.unusedVariables false
namespace Go.Proofs.Ythimhbfglgnohaa
open Go.RowKit M
variable {Q : Nat → Prop}

/-- What the document's Step comes to. -/
def DStepped (Q : Nat → Prop) (w : World) (mb wb : Nat) (ob : Option Nat) (code : List Nat) (cv : Value) (k : Bool) (s' : St) (e : Ending) (w' : World) : Prop :=
  ∃ ob' iv' ov', e = .returned (.bool k) ∧ Went w w' mb wb ob ob' ∧ DAt Q w' mb wb ob' code s' cv iv' ov'

set_option maxHeartbeats 1600000 in
theorem dstep_fin (mb wb : Nat) (ob : Option Nat) (code : List Nat) (cv iv ov : Value) (s : St) (w : World) (hM : DAt Q w mb wb ob code s cv iv ov) (hf : ¬ s.fin = 0) :
    Calls Try.prog 16 #[.pointer (some ⟨mb, 0, none⟩)] w fun e w' => DStepped Q w mb wb ob code cv false (M.step code s) e w' := by
  have c26 : w.cell? ⟨mb, 26, none⟩ = some (.int .i64 s.fin) := hM.1.cell 26
  have hlt := hM.1.lt
  have e1 : M.step code s = s := by unfold M.step; rw [if_pos hf]
  have hne : ((s.fin : Int) != 0) = true := by simp; omega
  rw [e1]
  have HM := Lib.hid hM
  clear hM hf e1
  go_enter Try.func16, Try.ntmps16
  go_wp2_with fail
  go_ret
  exact ⟨ob, iv, ov, rfl, Went.of_nil (Only.refl _ _), HM.out⟩

set_option maxHeartbeats 1600000 in
theorem dstep_end (mb wb : Nat) (ob : Option Nat) (code : List Nat) (cv iv ov : Value) (s : St) (w : World) (hl : code.length ≤ 1048576) (hM : DAt Q w mb wb ob code s cv iv ov) (hf : s.fin = 0) (hp : ¬ s.pc < code.length) :
    Calls Try.prog 16 #[.pointer (some ⟨mb, 0, none⟩)] w fun e w' => DStepped Q w mb wb ob code cv true (M.step code s) e w' := by
  have c26 : w.cell? ⟨mb, 26, none⟩ = some (.int .i64 s.fin) := hM.1.cell 26
  rw [hf] at c26
  have c23 : w.cell? ⟨mb, 23, none⟩ = some (.int .i64 s.pc) := hM.1.cell 23
  have c0 : w.cell? ⟨mb, 0, none⟩ = some cv := hM.1.cell 0
  obtain ⟨b, ao, cap, off, e1, _⟩ := hM.2.2.2.1
  have hlt := hM.1.lt
  have es : M.step code s = ended s 15 := by unfold M.step doIt; rw [if_neg (by rw [hf]; decide), if_neg hp]; rfl
  rw [es]
  subst e1
  have cF := fun (w' : World) (ho : Only Nil w w') => dfault_any mb _ _ iv ov s w' (hM.1.kept ho (fun h => h))
  have HM := Lib.hid hM
  have HCF := Lib.hid cF
  obtain ⟨pc, hpc⟩ : ∃ pc, s.pc = pc := ⟨_, rfl⟩
  rw [hpc] at c23 hp
  obtain ⟨n, hn⟩ : ∃ n, code.length = n := ⟨_, rfl⟩
  rw [hn] at c0 hp
  have hge : (n : Int) ≤ (pc : Int) := by omega
  have hd0 : decide ((pc : Int) < 0) = false := by simp
  clear hM hp es cF hf hpc hn
  go_enter Try.func16, Try.ntmps16
  go_wp2_with fail
  go_quiet (fail)
  go_wp2_with fail
  refine (HCF.out _ (by (repeat with_reducible first | exact Only.refl _ _ | refine Only.alloc ?_ _ | refine M.Only.drewN ?_ _ | refine Only.drew ?_))).mono ?_
  rintro e w3 ⟨rfl, hB3, ho3⟩
  have ho4 : Only (M.One mb) w w3 := Only.trans (T := M.One mb) (by (repeat with_reducible first | exact Only.refl _ _ | refine Only.alloc ?_ _ | refine M.Only.drewN ?_ _ | refine Only.drew ?_)) ho3 (fun _ _ h => h)
  have H3 := Lib.hid hB3
  have H4 := Lib.hid ho4
  clear hB3 ho3 ho4
  go_wp2_with fail
  go_ret
  exact ⟨ob, iv, ov, rfl, Went.of_one H4.out, HM.out.own H4.out H3.out rfl rfl rfl⟩
end Go.Proofs.Ythimhbfglgnohaa

/- The document's machine's Step on a word of the code. -/
set_option linter.unusedSimpArgs false
set_option linter.unusedVariables false
namespace Go.Proofs.Ythimhbfglgnohaa
open Go.RowKit M
variable {Q : Nat → Prop}

theorem DAt.pcTo {w : World} {mb wb : Nat} {ob : Option Nat} {code : List Nat} {s : St} {cv iv ov : Value} (h : DAt Q w mb wb ob code s cv iv ov) (t : Nat) : DAt Q (w.setCell ⟨mb, 23, none⟩ (.int .i64 t)) mb wb ob code { s with pc := t } cv iv ov := by
  have hB := h.1.setCell 23 (.int .i64 t)
  rw [dcells_pc] at hB
  exact h.own (s' := { s with pc := t }) (Only.setOne (Only.refl _ _) _ _) hB rfl rfl rfl
theorem step_none {code : List Nat} {s : St} (hf : s.fin = 0) (h : doIt code s = none) : M.step code s = ended s 15 := by unfold M.step; rw [if_neg (by rw [hf]; decide), h]; rfl
theorem step_some {code : List Nat} {s s' : St} (hf : s.fin = 0) (h : doIt code s = some s') : M.step code s = s' := by unfold M.step; rw [if_neg (by rw [hf]; decide), h]; rfl

/-- A branch that ends a run leaves where it stands. -/
theorem branch_stays {s s' : St} {i : Ins} (e : M.branch s i = some s') (hf : s.fin = 0) : ¬ s'.fin = 0 → s'.pc = s.pc := by
  intro h
  unfold M.branch at e
  split at e
  · simp only [Option.some.injEq] at e; subst e; exact absurd hf h
  · split at e
    · simp only [Option.some.injEq] at e; subst e; rfl
    · split at e
      · simp at e
      · simp only [Option.some.injEq] at e; subst e; exact absurd hf h

set_option maxRecDepth 20000 in
set_option maxHeartbeats 6400000 in
theorem dstep_word (mb wb : Nat) (ob : Option Nat) (code : List Nat) (cv iv ov : Value) (s : St) (w : World) (hs : s.Ok) (hc : ∀ x ∈ code, x < 4294967296) (hl : code.length ≤ 1048576) (hM : DAt Q w mb wb ob code s cv iv ov) (hf0 : s.fin = 0) (htr : s.trap = 0) (hp : s.pc < code.length) (hol : s.out.length ≤ 1099511627776) :
    Calls Try.prog 16 #[.pointer (some ⟨mb, 0, none⟩)] w fun e w' => DStepped Q w mb wb ob code cv true (M.step code s) e w' := by
  have c26 : w.cell? ⟨mb, 26, none⟩ = some (.int .i64 s.fin) := hM.1.cell 26
  rw [hf0] at c26
  have c23 : w.cell? ⟨mb, 23, none⟩ = some (.int .i64 s.pc) := hM.1.cell 23
  have c0 : w.cell? ⟨mb, 0, none⟩ = some cv := hM.1.cell 0
  obtain ⟨b, cap, off, e1, e2, e3, e4⟩ := hM.2.2.2.1.word hp
  have hlt := hM.1.lt
  have hx : code.getD s.pc 0 < 4294967296 := getD_lt hc (by decide)
  subst e1
  have cD := fun w => decR_any _ w hx
  obtain ⟨x, hxx⟩ : ∃ x, code.getD s.pc 0 = x := ⟨_, rfl⟩
  rw [hxx] at e4 cD hx
  obtain ⟨ok, hok⟩ : ∃ ok, isOk x = ok := ⟨_, rfl⟩
  rw [hok] at cD
  obtain ⟨F, u, v, A, B, C, o, m, hI⟩ : ∃ F u v A B C o m, decI x = ⟨F, u, v, A, B, C, o, m⟩ := ⟨_, _, _, _, _, _, _, _, rfl⟩
  rw [hI] at cD
  unfold Ins.val Ins.cells at cD
  simp only at cD
  have hno : Hid (ok = false → doIt code s = none) := Lib.hid (fun h => by
    unfold doIt; rw [if_pos hp, hxx, hok, h]; rfl)
  have hyes : Hid (ok = true → doIt code s = exec s ⟨F, u, v, A, B, C, o, m⟩ ∧ Fields ⟨F, u, v, A, B, C, o, m⟩) := Lib.hid (fun h => by
    have h2 := hI
    rw [decI_yes (by rw [hok, h])] at h2
    refine ⟨?_, ?_⟩
    · unfold doIt; rw [if_pos hp, hxx, hok, h, if_pos rfl, h2]
    · rw [← h2]; exact dec_fields hx (by rw [hok, h]))
  obtain ⟨pc, hpc0⟩ : ∃ pc, s.pc = pc := ⟨_, rfl⟩
  have hpcle : pc ≤ 1048576 := by rw [← hpc0]; exact hs.pc
  rw [hpc0] at c23 e4 hp
  obtain ⟨n, hn⟩ : ∃ n, code.length = n := ⟨_, rfl⟩
  rw [hn] at c0 hp hl e2
  have hlt2 : (pc : Int) < (n : Int) := by omega
  have hd0 : decide ((pc : Int) < 0) = false := by simp
  have hd1 : decide ((n : Int) ≤ (pc : Int)) = false := by simp; omega
  have p0 : (0 : Int) ≤ (pc : Int) := Int.natCast_nonneg _
  have HM := Lib.hid hM
  have HPC := Lib.hid hpc0
  have HF0 := Lib.hid hf0
  have HTR := Lib.hid htr
  have HS := Lib.hid hs
  have HN := Lib.hid hn
  clear hM hxx hI hok hpc0 hn hf0 htr hs hc
  go_enter Try.func16, Try.ntmps16
  go_wp2_with fail
  go_quiet (fail)
  go_wp2_with fail
  have ho2 : Only Nil w (w.drewN nq) := M.Only.drewN (Only.refl _ _) _
  obtain ⟨w2, hw2⟩ : ∃ w2, w.drewN nq = w2 := ⟨_, rfl⟩
  rw [hw2] at ho2 ⊢
  have d23 := ho2.cell c23 (fun h => h)
  have d0 := ho2.cell c0 (fun h => h)
  have d4 := ho2.cell e4 (fun h => h)
  have hsz := ho2.size
  have hlm : mb < w2.heap.size := by omega
  have hlb : b < w2.heap.size := World.block_lt_of_cell? w2 _ d4
  have HO := Lib.hid ho2
  have HSZ := Lib.hid hsz
  clear c26 c23 c0 e4 hw2 ho2 hsz
  go_cut [3, 4] (fun s3 s4 wx => ∃ ib, s3 = .pointer (some ⟨ib, 0, none⟩) ∧ s4 = .bool ok ∧ w.heap.size ≤ ib ∧ Blk wx ib #[.int .i64 F, .bool u, .bool v, .int .i64 A, .int .i64 B, .int .i64 C, .int .i64 o, .int .i32 m] 49 ∧ Only Nil w wx)
  case first =>
    go_region_with (first | (go_at_call 33; refine (cD _).mono ?_; rintro e w6 ⟨rfl, ho6⟩; (try (have hB6 := (Blk.drew (Blk.new w2 _ _)).kept ho6 (fun h => h); have k0 := hB6.cell 0; have z0 := hB6.free 0; have k1 := hB6.cell 1; have z1 := hB6.free 1; have k2 := hB6.cell 2; have z2 := hB6.free 2; have k3 := hB6.cell 3; have z3 := hB6.free 3; have k4 := hB6.cell 4; have z4 := hB6.free 4; have k5 := hB6.cell 5; have z5 := hB6.free 5; have k6 := hB6.cell 6; have z6 := hB6.free 6; have k7 := hB6.cell 7; have z7 := hB6.free 7))))
    all_goals (go_wp2_with fail; go_meet)
    all_goals refine ⟨_, rfl, rfl, ?_, ?_, ?_⟩
    all_goals first
      | with_reducible exact HSZ.out
      | with_reducible exact Blk.new w6 _ _
      | with_reducible exact Blk.ins hB6
      | (with_reducible refine Only.alloc ?_ _; exact (HO.out.drew).trans ho6 (fun _ _ h => h))
      | ((repeat with_reducible refine Only.setCell ?_ (fun h => absurd h (Nat.not_lt.2 HSZ.out)) _); exact ((HO.out.alloc _).drew).trans ho6 (fun _ _ h => h))
      | exact (fun h : w.heap.size ≤ w6.heap.size => h) (Nat.le_trans HSZ.out ho6.size)
  case rest =>
    obtain ⟨ib, rfl, rfl, hib, hBi, hoi⟩ := hcut
    have hMx := HM.out.quiet hoi
    have HMX := Lib.hid hMx
    have HOI := Lib.hid hoi
    have hlx := hMx.1.lt
    clear hMx hoi cD d23 d0 d4
    cases ok
    · have HNO := Lib.hid (hno.out rfl)
      clear hno hyes
      have cF := fun (w' : World) (ho : Only Nil wc w') => dfault_any mb _ _ iv ov s w' ((HMX.out.quiet (Only.refl Nil wc)).1.kept ho (fun h => h))
      have HCF := Lib.hid cF
      clear cF
      go_wp2_with fail
      refine (HCF.out _ (Only.refl _ _)).mono ?_
      rintro e w4 ⟨rfl, hB4, ho4⟩
      have H4 := Lib.hid hB4
      have HO4 := Lib.hid ho4
      clear hB4 ho4
      go_wp2_with fail
      go_ret
      rw [step_none HF0.out HNO.out]
      exact ⟨ob, iv, ov, rfl, Went.of_one (((HOI.out.trans (Only.refl Nil wc) (fun _ _ h => h)).mono (fun _ h => h.elim)).trans HO4.out (fun _ _ h => h)), (HMX.out.quiet (Only.refl Nil wc)).own HO4.out H4.out rfl rfl rfl⟩
    · obtain ⟨hR', hf⟩ := hyes.out rfl
      obtain ⟨hF, hA, hB, hC, ho, m1, m2, m3, m4⟩ := hf
      simp only at hF hA hB hC ho m1 m2 m3 m4
      obtain ⟨a, rfl⟩ := Int.eq_ofNat_of_zero_le hA.1
      obtain ⟨b', rfl⟩ := Int.eq_ofNat_of_zero_le hB.1
      obtain ⟨c, rfl⟩ := Int.eq_ofNat_of_zero_le hC.1
      obtain ⟨o', rfl⟩ := Int.eq_ofNat_of_zero_le ho.1
      have ha : a < 16 := by omega
      have hb : b' < 16 := by omega
      have hc' : c < 16 := by omega
      have x0 := hBi.cell 0
      have x1 := hBi.cell 1
      have x2 := hBi.cell 2
      have x3 := hBi.cell 3
      have x4 := hBi.cell 4
      have x5 := hBi.cell 5
      have x6 := hBi.cell 6
      have x7 := hBi.cell 7
      simp only [List.getElem?_toArray, List.getElem?_cons_zero, List.getElem?_cons_succ] at x0 x1 x2 x3 x4 x5 x6 x7
      have y23 : wc.cell? ⟨mb, 23, none⟩ = some (.int .i64 s.pc) := HMX.out.1.cell 23
      rw [HPC.out] at y23
      have hli := hBi.lt
      have HH := Lib.hid hR'
      have HM3 := Lib.hid m3
      clear hno hyes hA hB hC ho hR' hBi hl m3 m4
      rcases hF with rfl | rfl | rfl | rfl
      · have cX := dreg_of mb wb ob code 0 u v a b' c o' m m1 m2 ha hb hc' (Or.inl rfl) _ iv ov s wc HS.out HMX.out
        have hX := exec_01 s 0 (Or.inl rfl) u v a b' c o' m
        unfold ic at cX
        cases hb' : M.reckon s ⟨0, u, v, a, b', c, o', m⟩ with
        | none =>
          rw [hb'] at cX hX
          simp only [Option.map_none] at hX
          have HNO := Lib.hid (HH.out.trans hX)
          unfold DDid at cX; simp only at cX
          clear hX hb'
          go_wp2_with fail
          refine cX.mono ?_
          rintro e w3 ⟨rfl, ho3⟩
          have HO3 := Lib.hid ho3
          clear cX ho3
          have cF := fun (w' : World) (ho : Only Nil w3 w') => dfault_any mb _ _ iv ov s w' ((HMX.out.quiet HO3.out).1.kept ho (fun h => h))
          have HCF := Lib.hid cF
          clear cF
          go_wp2_with fail
          refine (HCF.out _ (Only.refl _ _)).mono ?_
          rintro e w4 ⟨rfl, hB4, ho4⟩
          have H4 := Lib.hid hB4
          have HO4 := Lib.hid ho4
          clear hB4 ho4
          go_wp2_with fail
          go_ret
          rw [step_none HF0.out HNO.out]
          exact ⟨ob, iv, ov, rfl, Went.of_one (((HOI.out.trans HO3.out (fun _ _ h => h)).mono (fun _ h => h.elim)).trans HO4.out (fun _ _ h => h)), (HMX.out.quiet HO3.out).own HO4.out H4.out rfl rfl rfl⟩
        | some s' =>
          rw [hb'] at cX hX
          simp only [Option.map_some] at hX
          have HYES := Lib.hid (HH.out.trans hX)
          unfold DDid at cX; simp only at cX
          have hk : s'.pc = s.pc ∧ s'.fin = s.fin := by
            have := reckon_keeps HS.out (by show (b' : Int).toNat < 16; omega) (by show (c : Int).toNat < 16; omega) hb'
            exact ⟨this.1, this.2.1⟩
          have HKP := Lib.hid hk
          clear hX hb' hk
          go_wp2_with fail
          refine cX.mono ?_
          rintro e w3 ⟨rfl, hw3, hM3⟩
          have y26 : w3.cell? ⟨mb, 26, none⟩ = some (.int .i64 s'.fin) := hM3.1.cell 26
          rw [HKP.out.2, HF0.out] at y26
          have z23 := hM3.1.free 23
          have w23 : w3.cell? ⟨mb, 23, none⟩ = some (.int .i64 s'.pc) := hM3.1.cell 23
          rw [HKP.out.1, HPC.out] at w23
          have hl3 := hM3.1.lt
          have hM4 := hM3.pcTo (pc + 1)
          have e4 : ({ s' with pc := pc + 1 } : St) = M.next s' := by unfold M.next; rw [HKP.out.1, HPC.out]
          rw [e4] at hM4
          have H4 := Lib.hid hM4
          have HW := Lib.hid (Went.of_one (wb := wb) (ob := ob) ((HOI.out.mono (T := M.One mb) (fun _ h => h.elim)).trans hw3 (fun _ _ h => h)))
          clear cX hM3 hM4 e4 hw3
          go_wp2_with fail
          go_ret
          rw [step_some HF0.out HYES.out]
          exact ⟨ob, iv, ov, rfl, ⟨Only.setOne' HW.out.1, HW.out.2⟩, H4.out⟩
      · have cX := dreg_of mb wb ob code 1 u v a b' c o' m m1 m2 ha hb hc' (Or.inr rfl) _ iv ov s wc HS.out HMX.out
        have hX := exec_01 s 1 (Or.inr rfl) u v a b' c o' m
        unfold ic at cX
        cases hb' : M.reckon s ⟨1, u, v, a, b', c, o', m⟩ with
        | none =>
          rw [hb'] at cX hX
          simp only [Option.map_none] at hX
          have HNO := Lib.hid (HH.out.trans hX)
          unfold DDid at cX; simp only at cX
          clear hX hb'
          go_wp2_with fail
          refine cX.mono ?_
          rintro e w3 ⟨rfl, ho3⟩
          have HO3 := Lib.hid ho3
          clear cX ho3
          have cF := fun (w' : World) (ho : Only Nil w3 w') => dfault_any mb _ _ iv ov s w' ((HMX.out.quiet HO3.out).1.kept ho (fun h => h))
          have HCF := Lib.hid cF
          clear cF
          go_wp2_with fail
          refine (HCF.out _ (Only.refl _ _)).mono ?_
          rintro e w4 ⟨rfl, hB4, ho4⟩
          have H4 := Lib.hid hB4
          have HO4 := Lib.hid ho4
          clear hB4 ho4
          go_wp2_with fail
          go_ret
          rw [step_none HF0.out HNO.out]
          exact ⟨ob, iv, ov, rfl, Went.of_one (((HOI.out.trans HO3.out (fun _ _ h => h)).mono (fun _ h => h.elim)).trans HO4.out (fun _ _ h => h)), (HMX.out.quiet HO3.out).own HO4.out H4.out rfl rfl rfl⟩
        | some s' =>
          rw [hb'] at cX hX
          simp only [Option.map_some] at hX
          have HYES := Lib.hid (HH.out.trans hX)
          unfold DDid at cX; simp only at cX
          have hk : s'.pc = s.pc ∧ s'.fin = s.fin := by
            have := reckon_keeps HS.out (by show (b' : Int).toNat < 16; omega) (by show (c : Int).toNat < 16; omega) hb'
            exact ⟨this.1, this.2.1⟩
          have HKP := Lib.hid hk
          clear hX hb' hk
          go_wp2_with fail
          refine cX.mono ?_
          rintro e w3 ⟨rfl, hw3, hM3⟩
          have y26 : w3.cell? ⟨mb, 26, none⟩ = some (.int .i64 s'.fin) := hM3.1.cell 26
          rw [HKP.out.2, HF0.out] at y26
          have z23 := hM3.1.free 23
          have w23 : w3.cell? ⟨mb, 23, none⟩ = some (.int .i64 s'.pc) := hM3.1.cell 23
          rw [HKP.out.1, HPC.out] at w23
          have hl3 := hM3.1.lt
          have hM4 := hM3.pcTo (pc + 1)
          have e4 : ({ s' with pc := pc + 1 } : St) = M.next s' := by unfold M.next; rw [HKP.out.1, HPC.out]
          rw [e4] at hM4
          have H4 := Lib.hid hM4
          have HW := Lib.hid (Went.of_one (wb := wb) (ob := ob) ((HOI.out.mono (T := M.One mb) (fun _ h => h.elim)).trans hw3 (fun _ _ h => h)))
          clear cX hM3 hM4 e4 hw3
          go_wp2_with fail
          go_ret
          rw [step_some HF0.out HYES.out]
          exact ⟨ob, iv, ov, rfl, ⟨Only.setOne' HW.out.1, HW.out.2⟩, H4.out⟩
      · cases u
        · have cX := dload_of mb wb ob code v a b' c o' m m1 m2 ha hb _ iv ov s wc HS.out HMX.out
          have hX := exec_2f s v a b' c o' m
          unfold ic at cX
          cases hb' : M.load s ⟨2, false, v, a, b', c, o', m⟩ with
          | none =>
            rw [hb'] at cX hX
            simp only [Option.map_none] at hX
            have HNO := Lib.hid (HH.out.trans hX)
            simp only at cX
            clear hX hb'
            go_wp2_with fail
            refine cX.mono ?_
            rintro e w3 ⟨rfl, ho3⟩
            have HO3 := Lib.hid ho3
            clear cX ho3
            have cF := fun (w' : World) (ho : Only Nil w3 w') => dfault_any mb _ _ iv ov s w' ((HMX.out.quiet HO3.out).1.kept ho (fun h => h))
            have HCF := Lib.hid cF
            clear cF
            go_wp2_with fail
            refine (HCF.out _ (Only.refl _ _)).mono ?_
            rintro e w4 ⟨rfl, hB4, ho4⟩
            have H4 := Lib.hid hB4
            have HO4 := Lib.hid ho4
            clear hB4 ho4
            go_wp2_with fail
            go_ret
            rw [step_none HF0.out HNO.out]
            exact ⟨ob, iv, ov, rfl, Went.of_one (((HOI.out.trans HO3.out (fun _ _ h => h)).mono (fun _ h => h.elim)).trans HO4.out (fun _ _ h => h)), (HMX.out.quiet HO3.out).own HO4.out H4.out rfl rfl rfl⟩
          | some s' =>
            rw [hb'] at cX hX
            simp only [Option.map_some] at hX
            have HYES := Lib.hid (HH.out.trans hX)
            simp only at cX
            have hk : s'.pc = s.pc ∧ s'.fin = s.fin := ⟨(load_keeps hb').1, (load_keeps hb').2.1⟩
            have HKP := Lib.hid hk
            clear hX hb' hk
            go_wp2_with fail
            refine cX.mono ?_
            rintro e w3 ⟨iv', rfl, hw3, hM3⟩
            have y26 : w3.cell? ⟨mb, 26, none⟩ = some (.int .i64 s'.fin) := hM3.1.cell 26
            rw [HKP.out.2, HF0.out] at y26
            have z23 := hM3.1.free 23
            have w23 : w3.cell? ⟨mb, 23, none⟩ = some (.int .i64 s'.pc) := hM3.1.cell 23
            rw [HKP.out.1, HPC.out] at w23
            have hl3 := hM3.1.lt
            have hM4 := hM3.pcTo (pc + 1)
            have e4 : ({ s' with pc := pc + 1 } : St) = M.next s' := by unfold M.next; rw [HKP.out.1, HPC.out]
            rw [e4] at hM4
            have H4 := Lib.hid hM4
            have HW := Lib.hid (Went.of_one (wb := wb) (ob := ob) ((HOI.out.mono (T := M.One mb) (fun _ h => h.elim)).trans hw3 (fun _ _ h => h)))
            clear cX hM3 hM4 e4 hw3
            go_wp2_with fail
            go_ret
            rw [step_some HF0.out HYES.out]
            exact ⟨ob, iv', ov, rfl, ⟨Only.setOne' HW.out.1, HW.out.2⟩, H4.out⟩
        · have cX := dstore_of mb wb ob code v a b' c o' m m1 m2 ha hb _ iv ov s wc HS.out HMX.out hol
          have hX := exec_2t s v a b' c o' m
          unfold ic at cX
          cases hb' : M.store s ⟨2, true, v, a, b', c, o', m⟩ with
          | none =>
            rw [hb'] at cX hX
            simp only [Option.map_none] at hX
            have HNO := Lib.hid (HH.out.trans hX)
            simp only at cX
            clear hX hb'
            go_wp2_with fail
            refine cX.mono ?_
            rintro e w3 ⟨rfl, ho3⟩
            have HO3 := Lib.hid ho3
            clear cX ho3
            have cF := fun (w' : World) (ho : Only Nil w3 w') => dfault_any mb _ _ iv ov s w' ((HMX.out.quiet HO3.out).1.kept ho (fun h => h))
            have HCF := Lib.hid cF
            clear cF
            go_wp2_with fail
            refine (HCF.out _ (Only.refl _ _)).mono ?_
            rintro e w4 ⟨rfl, hB4, ho4⟩
            have H4 := Lib.hid hB4
            have HO4 := Lib.hid ho4
            clear hB4 ho4
            go_wp2_with fail
            go_ret
            rw [step_none HF0.out HNO.out]
            exact ⟨ob, iv, ov, rfl, Went.of_one (((HOI.out.trans HO3.out (fun _ _ h => h)).mono (fun _ h => h.elim)).trans HO4.out (fun _ _ h => h)), (HMX.out.quiet HO3.out).own HO4.out H4.out rfl rfl rfl⟩
          | some s' =>
            rw [hb'] at cX hX
            simp only [Option.map_some] at hX
            have HYES := Lib.hid (HH.out.trans hX)
            simp only at cX
            have hk : s'.pc = s.pc ∧ s'.fin = s.fin := ⟨(store_keeps hb').1, (store_keeps hb').2.1⟩
            have HKP := Lib.hid hk
            clear hX hb' hk
            go_wp2_with fail
            refine cX.mono ?_
            rintro e w3 ⟨ob', ov', rfl, hw3, hg3, hM3⟩
            have y26 : w3.cell? ⟨mb, 26, none⟩ = some (.int .i64 s'.fin) := hM3.1.cell 26
            rw [HKP.out.2, HF0.out] at y26
            have z23 := hM3.1.free 23
            have w23 : w3.cell? ⟨mb, 23, none⟩ = some (.int .i64 s'.pc) := hM3.1.cell 23
            rw [HKP.out.1, HPC.out] at w23
            have hl3 := hM3.1.lt
            have hM4 := hM3.pcTo (pc + 1)
            have e4 : ({ s' with pc := pc + 1 } : St) = M.next s' := by unfold M.next; rw [HKP.out.1, HPC.out]
            rw [e4] at hM4
            have H4 := Lib.hid hM4
            have HW := Lib.hid (Went.trans (Went.of_nil HOI.out) ⟨hw3, hg3⟩)
            clear cX hM3 hM4 e4 hw3
            go_wp2_with fail
            go_ret
            rw [step_some HF0.out HYES.out]
            exact ⟨ob', iv, ov', rfl, ⟨Only.setOne' HW.out.1, HW.out.2⟩, H4.out⟩
      · have cX := dbranch_of mb wb ob code u v a b' c o' m m1 m2 (HM3.out rfl) ha hc' _ iv ov s wc HS.out HTR.out HMX.out
        have hX := exec_3 s u v a b' c o' m
        unfold ic at cX
        cases hb' : M.branch s ⟨3, u, v, a, b', c, o', m⟩ with
        | none =>
          rw [hb'] at cX hX
          have HNO := Lib.hid (HH.out.trans hX)
          simp only at cX
          clear hX hb'
          go_wp2_with fail
          refine cX.mono ?_
          rintro e w3 ⟨rfl, ho3⟩
          have HO3 := Lib.hid ho3
          clear cX ho3
          have cF := fun (w' : World) (ho : Only Nil w3 w') => dfault_any mb _ _ iv ov s w' ((HMX.out.quiet HO3.out).1.kept ho (fun h => h))
          have HCF := Lib.hid cF
          clear cF
          go_wp2_with fail
          refine (HCF.out _ (Only.refl _ _)).mono ?_
          rintro e w4 ⟨rfl, hB4, ho4⟩
          have H4 := Lib.hid hB4
          have HO4 := Lib.hid ho4
          clear hB4 ho4
          go_wp2_with fail
          go_ret
          rw [step_none HF0.out HNO.out]
          exact ⟨ob, iv, ov, rfl, Went.of_one (((HOI.out.trans HO3.out (fun _ _ h => h)).mono (fun _ h => h.elim)).trans HO4.out (fun _ _ h => h)), (HMX.out.quiet HO3.out).own HO4.out H4.out rfl rfl rfl⟩
        | some s' =>
          rw [hb'] at cX hX
          have HYES := Lib.hid (HH.out.trans hX)
          simp only at cX
          have hk := branch_stays hb' HF0.out
          have HKP := Lib.hid hk
          clear hX hb' hk
          go_wp2_with fail
          refine cX.mono ?_
          rintro e w3 ⟨rfl, hw3, hM3⟩
          have y26 : w3.cell? ⟨mb, 26, none⟩ = some (.int .i64 s'.fin) := hM3.1.cell 26
          have z23 := hM3.1.free 23
          have w23 : w3.cell? ⟨mb, 23, none⟩ = some (.int .i64 s.pc) := hM3.1.cell 23
          have hl3 := hM3.1.lt
          have HW := Lib.hid (Went.of_one (wb := wb) (ob := ob) ((HOI.out.mono (T := M.One mb) (fun _ h => h.elim)).trans hw3 (fun _ _ h => h)))
          by_cases hfin : s'.fin = 0
          · have hM4 := hM3.pcTo s'.pc
            have H4 := Lib.hid hM4
            rw [hfin] at y26
            clear cX hM3 hM4 hw3 hfin
            go_wp2_with fail
            go_ret
            rw [step_some HF0.out HYES.out]
            exact ⟨ob, iv, ov, rfl, ⟨Only.setOne' HW.out.1, HW.out.2⟩, H4.out⟩
          · have hne : ((s'.fin : Int) == 0) = false := by rw [beq_eq_false_iff_ne]; omega
            have e4 : ({ s' with pc := s.pc } : St) = s' := by rw [← HKP.out hfin]
            rw [e4] at hM3
            have H4 := Lib.hid hM3
            clear cX hM3 hw3 hfin e4
            go_wp2_with fail
            go_ret
            rw [step_some HF0.out HYES.out]
            exact ⟨ob, iv, ov, rfl, HW.out, H4.out⟩
end Go.Proofs.Ythimhbfglgnohaa

/- The document's machine's Step. -/
set_option linter.unusedSimpArgs false
set_option linter.unusedVariables false
namespace Go.Proofs.Ythimhbfglgnohaa
open Go.RowKit M
variable {Q : Nat → Prop}

/-- The document's machine does its next instruction, whatever it is. -/
theorem dstep_any (mb wb : Nat) (ob : Option Nat) (code : List Nat) (cv iv ov : Value) (s : St) (w : World) (hs : s.Ok) (hc : ∀ x ∈ code, x < 4294967296) (hl : code.length ≤ 1048576) (hM : DAt Q w mb wb ob code s cv iv ov) (htr : s.fin = 0 → s.trap = 0) (hol : s.out.length ≤ 1099511627776) :
    Calls Try.prog 16 #[.pointer (some ⟨mb, 0, none⟩)] w fun e w' => DStepped Q w mb wb ob code cv (s.fin == 0) (M.step code s) e w' := by
  by_cases hf : s.fin = 0
  · have e : (s.fin == 0) = true := by rw [hf]; rfl
    rw [e]
    by_cases hp : s.pc < code.length
    · exact dstep_word mb wb ob code cv iv ov s w hs hc hl hM hf (htr hf) hp hol
    · exact dstep_end mb wb ob code cv iv ov s w hl hM hf hp
  · have e : (s.fin == 0) = false := by rw [beq_eq_false_iff_ne]; exact hf
    rw [e]
    exact dstep_fin mb wb ob code cv iv ov s w hM hf
end Go.Proofs.Ythimhbfglgnohaa

/- The document's machine's Run. -/
set_option linter.unusedSimpArgs false
set_option linter.unusedVariables false
namespace Go.Proofs.Ythimhbfglgnohaa
open Go.RowKit M
variable {Q : Nat → Prop}

/-- A machine that goes on has no trap. -/
def Free (s : St) : Prop := s.fin = 0 → s.trap = 0
theorem branch_free {s s' : St} {i : Ins} (h : Free s) (e : M.branch s i = some s') : Free s' := by
  unfold M.branch at e
  split at e
  · cases e; exact h
  split at e
  · cases e; intro hf; unfold ended at hf ⊢; simp only at hf ⊢; split at hf
    · omega
    · omega
  split at e
  · cases e
  · cases e; exact h
theorem exec_free {s s' : St} {i : Ins} (h : s.Ok) (hf : Fields i) (hfr : Free s) (e : exec s i = some s') : Free s' := by
  have hB := hf.B
  have hC := hf.C
  unfold exec at e
  split at e
  · exact branch_free hfr e
  split at e
  · split at e
    · cases ea : M.store s i with
      | none => rw [ea] at e; cases e
      | some x =>
        rw [ea] at e; cases e
        obtain ⟨k1, k2, k3, k4, k5⟩ := store_keeps ea
        intro hx
        rw [show (M.next x).fin = x.fin from rfl, k2] at hx
        rw [show (M.next x).trap = x.trap from rfl, k3]
        exact hfr hx
    · cases ea : M.load s i with
      | none => rw [ea] at e; cases e
      | some x =>
        rw [ea] at e; cases e
        obtain ⟨k1, k2, k3, k4, k5⟩ := load_keeps ea
        intro hx
        rw [show (M.next x).fin = x.fin from rfl, k2] at hx
        rw [show (M.next x).trap = x.trap from rfl, k3]
        exact hfr hx
  · cases ea : M.reckon s i with
    | none => rw [ea] at e; cases e
    | some x =>
      rw [ea] at e; cases e
      obtain ⟨k1, k2, k3, k4, k5, k6⟩ := reckon_keeps h (by omega) (by omega) ea
      intro hx
      rw [show (M.next x).fin = x.fin from rfl, k2] at hx
      rw [show (M.next x).trap = x.trap from rfl, k3]
      exact hfr hx
theorem step_free {code : List Nat} {s : St} (h : s.Ok) (hc : ∀ x ∈ code, x < 4294967296) (hfr : Free s) : Free (M.step code s) := by
  unfold M.step
  split
  · exact hfr
  · cases e : doIt code s with
    | none =>
      show Free (ended s 15)
      intro hx
      exact absurd hx (by show (if (15 : Nat) = 0 then 1 else 2) ≠ 0; decide)
    | some s' =>
      show Free s'
      unfold doIt at e
      split at e
      · split at e
        · rename_i hp hk
          exact exec_free h (dec_fields (getD_lt hc (by decide)) hk) hfr e
        · cases e
      · cases e
theorem s0_free (n : Nat) (inp : List Nat) : Free (s0 n inp) := fun _ => rfl

set_option maxHeartbeats 1600000 in
/-- The document's machine's Run. -/
theorem drun_any (mb wb : Nat) (ob : Option Nat) (code : List Nat) (cv iv ov : Value) (s : St) (w : World) (hs : s.Ok) (hc : ∀ x ∈ code, x < 4294967296) (hl : code.length ≤ 1048576) (hM : DAt Q w mb wb ob code s cv iv ov) (f : Int) (hf1 : -9223372036854775808 ≤ f) (hf2 : f ≤ 9223372036854775807) (hol : s.out.length + f.toNat ≤ 1099511627776) {t : St} (hfr : Free s) (ht : M.run code f.toNat s = t) :
    Calls Try.prog 21 #[.pointer (some ⟨mb, 0, none⟩), .int .i64 f] w fun e w' => ∃ ob' iv' ov' rv, e = .returned (.agg #[rv, .int .i64 t.fin, .int .i64 t.trap]) ∧ Went w w' mb wb ob ob' ∧
      w'.ownsRow w.heap.size 5 1 rv t.out.length (U8s t.out) ∧ DAt Q w' mb wb ob' code t cv iv' ov' := by
  go_enter Try.func21, Try.ntmps21
  go_wp2_with fail
  have hB0 := Blk.new w #[Value.slice none 0 0, .int .i64 0, .int .i64 0] 39
  obtain ⟨rb, hrb⟩ : ∃ b, w.heap.size = b := ⟨_, rfl⟩
  have hq1 : Only Nil w (w.alloc (.cells #[Value.slice none 0 0, .int .i64 0, .int .i64 0] 39)) := (Only.refl Nil w).alloc _
  obtain ⟨w1, hw1⟩ : ∃ w1, w.alloc (.cells #[Value.slice none 0 0, .int .i64 0, .int .i64 0] 39) = w1 := ⟨_, rfl⟩
  rw [hw1] at hB0 hq1 ⊢
  rw [hrb] at hB0 ⊢
  have hM1 := hM.quiet hq1
  have hlm := hM.1.lt
  have hlw := hM.2.1.lt
  have hmr : mb ≠ rb := by omega
  have hwr : wb ≠ rb := by omega
  have hor : ∀ k, ob = some k → k ≠ rb := by
    intro k hk e
    have := hM.obLt hk
    omega
  have hM2 : DAt (fun k => Q k ∨ k = rb) w1 mb wb ob code s cv iv ov := (hM.less (T := fun k => Q k ∨ k = rb) (fun k hk h => h.elim id (fun h => absurd hk (by omega)))).quiet hq1
  have HQ := Lib.hid hq1
  have HR := Lib.hid hrb
  clear hM hM1 hw1 hrb hq1
  go_loopg [1] f.toNat (fun g s1 wr => ∃ (n : Int) (sx : St) (obx : Option Nat) (ivx ovx : Value), s1 = .int .i64 n ∧ n.toNat = g ∧ n ≤ 9223372036854775807 ∧ -9223372036854775808 ≤ n ∧ sx.Ok ∧ sx.out.length + g ≤ 1099511627776 ∧ M.run code g sx = t ∧ Free sx ∧ DAt (fun k => Q k ∨ k = rb) wr mb wb obx code sx cv ivx ovx ∧ Went w1 wr mb wb ob obx ∧ (∀ k, obx = some k → k ≠ rb) ∧ Blk wr rb #[Value.slice none 0 0, .int .i64 0, .int .i64 0] 39)
  case atStart => exact ⟨f, s, ob, iv, ov, rfl, rfl, hf2, hf1, hs, hol, ht, hfr, hM2, Went.of_nil (Only.refl _ _), hor, hB0⟩
  case round =>
    clear hM2 hB0
    obtain ⟨n, sx, obx, ivx, ovx, rfl, hng, hn1, hn2, hok, hlen, hrun, hfrx, hM, hW, hor', hBr⟩ := hrel
    by_cases hn : 0 < n
    · obtain ⟨g', hg'⟩ : ∃ g', gk = g' + 1 := ⟨gk - 1, by omega⟩
      rw [hg', run_succ] at hrun
      have cS := dstep_any mb wb obx code cv ivx ovx sx wr hok hc hl hM hfrx (by omega)
      unfold DStepped at cS
      have hfr2 := step_free hok hc hfrx (code := code)
      obtain ⟨ok2, len2, out2⟩ := step_ok hok hc hl
      by_cases hfin : sx.fin = 0
      · rw [show (sx.fin == 0) = true by rw [hfin]; rfl] at cS
        have HBr := Lib.hid hBr
        have HW := Lib.hid hW
        have HOR := Lib.hid hor'
        have HRUN := Lib.hid hrun
        have HO := Lib.hid hlen
        have HG := Lib.hid hg'
        clear hM hW hor' hBr hrun hlen hg' hs hol
        go_wp2_with fail
        refine cS.mono ?_
        rintro e w3 ⟨ob3, iv3, ov3, rfl, hw3, hM3⟩
        clear cS
        have H3 := Lib.hid hM3
        clear hM3
        go_wp2_with fail
        have hlr := HBr.out.lt
        have hB3 := HBr.out.kept hw3.1 (fun h => by
          rcases h with h | h | h
          · exact hmr h.symm
          · exact hwr h.symm
          · exact HOR.out rb h.symm rfl)
        have hor3 : ∀ k, ob3 = some k → k ≠ rb := fun k hk e => by
          rcases hw3.2 with h | ⟨j, h, hj⟩
          · rw [h] at hk; exact HOR.out k hk e
          · rw [h] at hk; injection hk with hk; omega
        go_roundg g'
        case measure => have := HG.out; omega
        case rel => exact ⟨n - 1, M.step code sx, ob3, iv3, ov3, by go_num, by have := HG.out; omega, by omega, by omega, ok2, by have := HO.out; have := HG.out; omega, HRUN.out, hfr2, H3.out, HW.out.trans hw3, hor3, hB3⟩
      · rw [show (sx.fin == 0) = false by rw [beq_eq_false_iff_ne]; exact hfin, step_fin _ _ hfin] at cS
        rw [step_fin _ _ hfin, run_fin _ _ _ hfin] at hrun
        subst hrun
        go_wp2_with fail
        refine cS.mono ?_
        rintro e w3 ⟨ob3, iv3, ov3, rfl, hw3, hM3⟩
        clear cS
        have hlr := hBr.lt
        have hB3 := hBr.kept hw3.1 (fun h => by
          rcases h with h | h | h
          · exact hmr h.symm
          · exact hwr h.symm
          · exact hor' rb h.symm rfl)
        have hor3 : ∀ k, ob3 = some k → k ≠ rb := fun k hk e => by
          rcases hw3.2 with h | ⟨j, h, hj⟩
          · rw [h] at hk; exact hor' k hk e
          · rw [h] at hk; injection hk with hk; omega
        have hW3 := hW.trans hw3
        clear hM hW hor' hBr hw3
        have hM := hM3
        have hW := hW3
        have hor' := hor3
        have hBr := hB3
        clear hM3 hW3 hor3 hB3
        have cR := dresult_any mb wb ob3 code cv iv3 ov3 sx w3 hM (by omega)
        have hrlt : rb < w3.heap.size := hBr.lt
        have hsz : w.heap.size ≤ w3.heap.size := Nat.le_trans HQ.out.size hW.1.size
        go_wp2_with fail
        refine cR.mono ?_
        rintro e w4 ⟨rv, rfl, hown4, ho4⟩
        clear cR
        obtain ⟨ao9, n9, cap9, rfl⟩ := ownsRow_slice hown4
        have hB4 := hBr.kept ho4 (fun h => h)
        have k0 := hB4.cell 0
        have k1 := hB4.cell 1
        have k2 := hB4.cell 2
        have z0 := hB4.free 0
        have z1 := hB4.free 1
        have z2 := hB4.free 2
        have hlt4 := hB4.lt
        have HM := Lib.hid hM
        have HWE := Lib.hid hW
        clear hM hW
        go_wp2_with fail
        have hB8 := ((hB4.setCell 0 (.slice ao9 n9 cap9)).setCell 1 (.int .i64 sx.fin)).setCell 2 (.int .i64 sx.trap)
        simp only [List.setIfInBounds_toArray, List.set_cons_zero, List.set_cons_succ] at hB8
        have hne := ownsRow_apart hown4 hrlt
        have hown8 := ownsRow_set_other (ownsRow_set_other (ownsRow_set_other (ownsRow_base hown4 hsz) ⟨rb, 0, none⟩ (.slice ao9 n9 cap9) hne) ⟨rb, 1, none⟩ (.int .i64 sx.fin) hne) ⟨rb, 2, none⟩ (.int .i64 sx.trap) hne
        (try simp only [Exit.inBlock, Exit.then])
        refine bodyPost_ret (results_cell_row rfl _ _ rb 39 _ (0, 0) _ rfl hB8 Try.underlying39 rfl (by kernel_rfl)) rfl ?_
        have hoS : Only (M.One rb) w3 _ := (Only.setOne (Only.setOne (Only.setOne (ho4.mono (fun _ h => h.elim)) 0 (.slice ao9 n9 cap9)) 1 (.int .i64 sx.fin)) 2 (.int .i64 sx.trap))
        have hM8 := HM.out.apart hoS (fun h => hmr h) (fun h => hwr h) (fun k hk h => hor' k hk h) (fun k hk => Or.inr hk)
        have hq : ∀ S : Nat → Prop, rb < w.heap.size → S rb := fun _ h => absurd h (by rw [HR.out]; exact Nat.lt_irrefl _)
        have hoA : Only (Own3 mb wb ob) w w3 := (HQ.out.mono (fun _ h => h.elim)).trans HWE.out.1 (fun _ _ h => h)
        have hoB : Only (Own3 mb wb ob) w _ := (((hoA.trans ho4 (fun _ _ h => h.elim)).setCell (p := ⟨rb, 0, none⟩) (hq _) (.slice ao9 n9 cap9)).setCell (p := ⟨rb, 1, none⟩) (hq _) (.int .i64 sx.fin)).setCell (p := ⟨rb, 2, none⟩) (hq _) (.int .i64 sx.trap)
        refine ⟨ob3, iv3, ov3, _, rfl, ⟨hoB, ?_⟩, ?_, hM8.less (fun k _ h => Or.inl h)⟩
        · exact HWE.out.2.imp id (fun ⟨k, h1, h2⟩ => ⟨k, h1, Nat.le_trans HQ.out.size h2⟩)
        · exact hown8
    · have hg0 : gk = 0 := by omega
      subst hg0
      have hrun' : sx = t := hrun
      subst hrun'
      have cR := dresult_any mb wb obx code cv ivx ovx sx wr hM (by omega)
      have hrlt : rb < wr.heap.size := hBr.lt
      have hsz : w.heap.size ≤ wr.heap.size := Nat.le_trans HQ.out.size hW.1.size
      go_wp2_with fail
      refine cR.mono ?_
      rintro e w4 ⟨rv, rfl, hown4, ho4⟩
      clear cR
      obtain ⟨ao9, n9, cap9, rfl⟩ := ownsRow_slice hown4
      have hB4 := hBr.kept ho4 (fun h => h)
      have k0 := hB4.cell 0
      have k1 := hB4.cell 1
      have k2 := hB4.cell 2
      have z0 := hB4.free 0
      have z1 := hB4.free 1
      have z2 := hB4.free 2
      have hlt4 := hB4.lt
      have HM := Lib.hid hM
      have HWE := Lib.hid hW
      clear hM hW
      go_wp2_with fail
      have hB8 := ((hB4.setCell 0 (.slice ao9 n9 cap9)).setCell 1 (.int .i64 sx.fin)).setCell 2 (.int .i64 sx.trap)
      simp only [List.setIfInBounds_toArray, List.set_cons_zero, List.set_cons_succ] at hB8
      have hne := ownsRow_apart hown4 hrlt
      have hown8 := ownsRow_set_other (ownsRow_set_other (ownsRow_set_other (ownsRow_base hown4 hsz) ⟨rb, 0, none⟩ (.slice ao9 n9 cap9) hne) ⟨rb, 1, none⟩ (.int .i64 sx.fin) hne) ⟨rb, 2, none⟩ (.int .i64 sx.trap) hne
      (try simp only [Exit.inBlock, Exit.then])
      refine bodyPost_ret (results_cell_row rfl _ _ rb 39 _ (0, 0) _ rfl hB8 Try.underlying39 rfl (by kernel_rfl)) rfl ?_
      have hoS : Only (M.One rb) wr _ := (Only.setOne (Only.setOne (Only.setOne (ho4.mono (fun _ h => h.elim)) 0 (.slice ao9 n9 cap9)) 1 (.int .i64 sx.fin)) 2 (.int .i64 sx.trap))
      have hM8 := HM.out.apart hoS (fun h => hmr h) (fun h => hwr h) (fun k hk h => hor' k hk h) (fun k hk => Or.inr hk)
      have hq : ∀ S : Nat → Prop, rb < w.heap.size → S rb := fun _ h => absurd h (by rw [HR.out]; exact Nat.lt_irrefl _)
      have hoA : Only (Own3 mb wb ob) w wr := (HQ.out.mono (fun _ h => h.elim)).trans HWE.out.1 (fun _ _ h => h)
      have hoB : Only (Own3 mb wb ob) w _ := (((hoA.trans ho4 (fun _ _ h => h.elim)).setCell (p := ⟨rb, 0, none⟩) (hq _) (.slice ao9 n9 cap9)).setCell (p := ⟨rb, 1, none⟩) (hq _) (.int .i64 sx.fin)).setCell (p := ⟨rb, 2, none⟩) (hq _) (.int .i64 sx.trap)
      refine ⟨obx, ivx, ovx, _, rfl, ⟨hoB, ?_⟩, ?_, hM8.less (fun k _ h => Or.inl h)⟩
      · exact HWE.out.2.imp id (fun ⟨k, h1, h2⟩ => ⟨k, h1, Nat.le_trans HQ.out.size h2⟩)
      · exact hown8
end Go.Proofs.Ythimhbfglgnohaa

