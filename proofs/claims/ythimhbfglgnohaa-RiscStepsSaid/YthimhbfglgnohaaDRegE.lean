/- The document's machine's instructions that reckon, part g. -/
import Derived.Test.YthimhbfglgnohaaDReg1
import Derived.Deep.DeepCutAuto
set_option linter.unusedSimpArgs false
set_option linter.unusedVariables false
namespace Go.Proofs.Ythimhbfglgnohaa
open Go.RowKit M
variable {Q : Nat → Prop}
attribute [local go_sem ↓] Go.wp_at_zero Go.wp_at_succ

set_option maxRecDepth 20000 in
set_option maxHeartbeats 6400000 in
theorem dreg_g (mb wb : Nat) (ob : Option Nat) (code : List Nat) (F : Int) (u v : Bool) (a b c o : Nat) (m : Int) (h1 : -2147483648 ≤ m) (h2 : m ≤ 2147483647) (ha : a < 16) (hb : b < 16) (hc : c < 16) (hF : F = 0 ∨ F = 1) (cv iv ov : Value) (s : St) (w : World) (hs : s.Ok) (hM : DAt Q w mb wb ob code s cv iv ov) {N : Nat} (hN : opnd s ⟨F, u, v, a, b, c, o, m⟩ = N) {k : Nat} (hk : (if u && s.c then 1 else 0 : Nat) = k) {B : Nat} (hB : s.R b = B) (hN32 : N < 4294967296) (hO : o = 9) :
    Calls Try.prog 34 #[.pointer (some ⟨mb, 0, none⟩), ic F u v a b c o m] w fun e w' => DDid Q w mb wb ob code cv iv ov e w' (reckon s ⟨F, u, v, a, b, c, o, m⟩) := by
  have hk1 : k ≤ 1 := by rw [← hk]; split <;> omega
  have hB32 : B < 4294967296 := by rw [← hB]; exact hs.reg b hb
  have hX1 := S_i32 B hB32
  have hY1 := S_i32 N hN32
  have eX := w32_nat B hB32
  have eY := w32_nat N hN32
  have HNN := Lib.hid hN
  have HKK := Lib.hid hk
  have HBB := Lib.hid hB
  obtain ⟨X, hX⟩ : ∃ X, S B = X := ⟨_, rfl⟩
  obtain ⟨Y, hY⟩ : ∃ Y, S N = Y := ⟨_, rfl⟩
  rw [hX] at eX hX1
  rw [hY] at eY hY1
  have HXX := Lib.hid hX
  have HYY := Lib.hid hY
  have HI32 : Hid (I32 X ∧ I32 Y) := Lib.hid ⟨hX1, hY1⟩
  unfold I32 at hX1 hY1
  have HEX := Lib.hid eX
  have HEY := Lib.hid eY
  have cB := (hM.1.cell (2 + b)).trans (dcells_reg cv _ iv ov s hb)
  have cC := (hM.1.cell (2 + c)).trans (dcells_reg cv _ iv ov s hc)
  rw [hB] at cB
  have hlt := hM.1.lt
  have b0 : (0 : Int) ≤ (b : Int) := Int.natCast_nonneg _
  have b1 : (b : Int) < 16 := by omega
  have c0 : (0 : Int) ≤ (c : Int) := Int.natCast_nonneg _
  have c1 : (c : Int) < 16 := by omega
  have i1 := insAt (w := w) (F := F) (u := u) (v := v) (a := a) (b := b) (c := c) (o := o) (m := m) (Only.refl Nil (w.alloc (.cells (icz F u v a b c o m) 49)))
  have HI := Lib.hid i1
  have hoa : Only Nil w (w.alloc (.cells (icz F u v a b c o m) 49)) := (Only.refl Nil w).alloc _
  have HOA := Lib.hid hoa
  have hN0 : F = 0 → s.R c = N := fun h => by rw [← hN]; unfold opnd; rw [if_pos h]; simp
  have hN1 : F = 1 → v = false → m % 4294967296 = (N : Int) := fun h h' => by rw [← hN]; unfold opnd U; rw [if_neg (by simp [h]), h', if_neg (by simp)]; simp only; omega
  have hN2 : F = 1 → v = true → (m % 4294967296 - 65536) % 4294967296 = (N : Int) := fun h h' => by rw [← hN]; unfold opnd U; rw [if_neg (by simp [h]), h', if_pos rfl]; simp only; omega
  have hN3 : F = 1 → v = true → (m - 65536) % 4294967296 = (N : Int) := fun h h' => by have := hN2 h h'; omega
  have HN0 := Lib.hid hN0
  have HN1 := Lib.hid hN1
  have HN2 := Lib.hid hN2
  have HN3 := Lib.hid hN3
  obtain ⟨sc, hsc⟩ : ∃ sc, s.c = sc := ⟨_, rfl⟩
  rw [hsc] at hk
  obtain ⟨tt, htt⟩ : ∃ tt, (u && sc) = tt := ⟨_, rfl⟩
  rw [htt] at hk
  have HTT := Lib.hid htt
  have HK := Lib.hid hk
  have HSC := Lib.hid hsc
  have HM := Lib.hid hM
  have HF := Lib.hid hF
  have HS := Lib.hid hs
  have cc : w.cell? ⟨mb, 21, none⟩ = some (.bool s.c) := hM.1.cell 21
  rw [hsc] at cc
  have HCC := Lib.hid cc
  obtain ⟨Rc, hRc⟩ : ∃ Rc, s.R c = Rc := ⟨_, rfl⟩
  rw [hRc] at cC
  have HRC := Lib.hid hRc
  have HCB := Lib.hid cB
  have HCC2 := Lib.hid cC
  have HOP := Lib.hid hO
  unfold ic
  clear i1 hN0 hN1 hN2 hN3 hk hM hF hs hN hX hY hB hRc hsc cc cC hoa hO htt eX eY
  go_enter Try.func34, Try.ntmps34
  go_wp2_with fail
  go_quiet (fail)
  have hoA : Only Nil w (World.drewN (w.alloc (.cells #[.int .i64 F, .bool u, .bool v, .int .i64 a, .int .i64 b, .int .i64 c, .int .i64 o, .int .i32 m] 49)) nq) := M.Only.drewN HOA.out nq
  have i2 := HI.out
  unfold InsAt at i2
  obtain ⟨wA, hwA⟩ : ∃ wA, World.drewN (w.alloc (.cells #[.int .i64 F, .bool u, .bool v, .int .i64 a, .int .i64 b, .int .i64 c, .int .i64 o, .int .i32 m] 49)) nq = wA := ⟨_, rfl⟩
  have x0 : wA.cell? ⟨w.heap.size, 0, none⟩ = some (.int .i64 F) := by rw [← hwA]; exact i2.1
  have x1 : wA.cell? ⟨w.heap.size, 1, none⟩ = some (.bool u) := by rw [← hwA]; exact i2.2.1
  have x2 : wA.cell? ⟨w.heap.size, 2, none⟩ = some (.bool v) := by rw [← hwA]; exact i2.2.2.1
  have x3 : wA.cell? ⟨w.heap.size, 3, none⟩ = some (.int .i64 a) := by rw [← hwA]; exact i2.2.2.2.1
  have x5 : wA.cell? ⟨w.heap.size, 5, none⟩ = some (.int .i64 c) := by rw [← hwA]; exact i2.2.2.2.2.2.1
  have x6 : wA.cell? ⟨w.heap.size, 6, none⟩ = some (.int .i64 o) := by rw [← hwA]; exact i2.2.2.2.2.2.2.1
  have x7 : wA.cell? ⟨w.heap.size, 7, none⟩ = some (.int .i32 m) := by rw [← hwA]; exact i2.2.2.2.2.2.2.2.1
  rw [hwA] at hoA ⊢
  have yC := hoA.cell HCC2.out (fun h => h)
  have yc := hoA.cell HCC.out (fun h => h)
  have hMA := HM.out.quiet hoA
  have hltA := hMA.1.lt
  have HMA := Lib.hid hMA
  have HO := Lib.hid hoA
  obtain ⟨ib, hib⟩ : ∃ ib, w.heap.size = ib := ⟨_, rfl⟩
  have hneq : ib ≠ mb := by omega
  rw [hib] at x0 x1 x2 x3 x5 x6 x7 ⊢
  clear hwA i2 hMA hoA cB hib
  go_wp2_with fail
  go_quiet (fail)
  go_upto_if 35 with fail
  go_cut [6] (fun s6 wx => s6 = .int .u32 N ∧ wx = wA.drewN nq)
  case first =>
    rcases HF.out with h0 | h0
    · have e1 : (F == 1) = false := by rw [h0]; rfl
      have hNR : Rc = N := by rw [← HRC.out]; exact HN0.out h0
      clear h0
      go_wp2_with fail
      go_meet
      exact ⟨by rw [hNR], rfl⟩
    · have e1 : (F == 1) = true := by rw [h0]; rfl
      cases hv : v
      · have e2 := HN1.out h0 hv
        subst hv
        clear h0
        go_wp2_with fail
        go_meet
        exact ⟨rfl, rfl⟩
      · have e2 := HN2.out h0 hv
        have e3 := HN3.out h0 hv
        subst hv
        clear h0
        go_wp2_with fail
        go_meet
        exact ⟨rfl, rfl⟩
  case rest =>
    obtain ⟨rfl, rfl⟩ := hcut
    go_upto_region 10 with fail
    go_cut [54] (fun s54 wx => s54 = .bool tt ∧ wx = wA.drewN nq)
    case first =>
      have ht := HTT.out
      clear HMA HM HSC HK HTT
      cases u
      · go_wp2_with fail
        go_meet
        exact ⟨by first | rfl | exact congrArg Value.bool ht, rfl⟩
      · go_wp2_with fail
        go_meet
        exact ⟨by first | rfl | exact congrArg Value.bool ((Bool.true_and sc).symm.trans ht), rfl⟩
    case rest =>
     obtain ⟨rfl, rfl⟩ := hcut
     go_upto_if 54 with fail
     go_cut [10] (fun s10 wx => s10 = .int .u64 k ∧ wx = wA.drewN nq)
     case first =>
      have hk := HK.out
      clear HMA HM HSC HK HTT
      cases tt
      · have hk0 : (k : Int) = 0 := by rw [← hk]; rfl
        go_wp2_with fail
        go_meet
        exact ⟨by first | rfl | exact congrArg (Value.int .u64) hk0.symm, rfl⟩
      · have hk0 : (k : Int) = 1 := by rw [← hk]; rfl
        go_wp2_with fail
        go_meet
        exact ⟨by first | rfl | exact congrArg (Value.int .u64) hk0.symm, rfl⟩
     case rest =>
      obtain ⟨rfl, rfl⟩ := hcut
      obtain ⟨w1, hw1⟩ : ∃ w1, wA.drewN nq = w1 := ⟨_, rfl⟩
      have ho01 : Only Nil wA w1 := hw1 ▸ M.Only.drewN (Only.refl _ _) nq
      have z0 := ho01.cell x0 (fun h => h)
      have z1 := ho01.cell x1 (fun h => h)
      have z2 := ho01.cell x2 (fun h => h)
      have z3 := ho01.cell x3 (fun h => h)
      have z5 := ho01.cell x5 (fun h => h)
      have z6 := ho01.cell x6 (fun h => h)
      have z7 := ho01.cell x7 (fun h => h)
      have hM1 := HMA.out.quiet ho01
      have ho1 := HO.out.trans ho01 (fun _ _ h => h)
      have hlt1 := hM1.1.lt
      have HM1 := Lib.hid hM1
      have HO1 := Lib.hid ho1
      rw [hw1]
      clear x0 x1 x2 x3 x5 x6 x7 hw1 ho01 hM1 ho1 HMA HO hltA
      have yH : w1.cell? ⟨mb, 18, none⟩ = some (.int .u32 s.H) := HM1.out.1.cell 18
      have fH := HM1.out.1.free 18
      have y21 : w1.cell? ⟨mb, 21, none⟩ = some (.bool s.c) := HM1.out.1.cell 21
      have f21 := HM1.out.1.free 21
      have y22 : w1.cell? ⟨mb, 22, none⟩ = some (.bool s.v) := HM1.out.1.cell 22
      have f22 := HM1.out.1.free 22
      clear yC yc HN0 HN1 HN2 HN3 HTT HK HI HOA HRC HCB HCC HCC2
      rcases HOP.out with rfl
      · obtain ⟨rr, hrr'⟩ : ∃ rr, U ((B : Int) - N - k) = rr := ⟨_, rfl⟩
        have hrr : rr < 4294967296 := by rw [← hrr']; exact U_lt _
        have e3 : ((B : Int) - N - k) % 4294967296 = (rr : Int) := dif_cast hrr'
        have e4 : (((B : Int) - N) % 4294967296 - k) % 4294967296 = (rr : Int) := dif_cast2 hrr'
        have ek : (k : Int) % 4294967296 = (k : Int) := k_cast hk1
        have hrec := reckon_9 HNN.out HBB.out HKK.out HXX.out HYY.out hrr'
        have HREC := Lib.hid hrec
        have HW : Hid (wrap64 (wrap32 (X - Y - k)) = wrap32 (X - Y - k)) := Lib.hid (w64_32 _)
        have HE1 : Hid (decide ((B : Int) < (N : Int) + k) = decide (B < N + k)) := Lib.hid (dif_carry B N k)
        have HE2 : Hid ((X - Y - (k : Int) != wrap64 (wrap32 (X - Y - k))) = decide (X - Y - k ≠ wrap32 (X - Y - k))) := Lib.hid (ne_w _)
        clear hrec hrr' yH fH
        simp only [HEX.out, HEY.out]
        have cS := fun (w2 : World) (h2 : Blk w2 mb (dcells cv (.slice (some ⟨wb, 0, none⟩) s.mem.length s.mem.length) iv ov { s with c := decide (B < N + k), v := decide (X - Y - k ≠ wrap32 (X - Y - k)) }) 68) => dset_any mb a rr cv (.slice (some ⟨wb, 0, none⟩) s.mem.length s.mem.length) iv ov { s with c := decide (B < N + k), v := decide (X - Y - k ≠ wrap32 (X - Y - k)) } w2 h2 ha hrr
        have HCS := Lib.hid cS
        clear cS
        go_wp2_with fail
        refine (HCS.out _ (M.Blk.of ((HM1.out.1.setCell 21 _).setCell 22 _) (by first | rw [dcells_c, dcells_v, HE1.out, HE2.out] | rw [dcells_c, dcells_v, HE2.out]))).mono ?_
        rintro e w3 ⟨rfl, hB3, ho3⟩
        have ho4 : Only (M.One mb) w w3 := (HO1.out.mono (T := M.One mb) (fun _ h => h.elim)).trans (Only.trans (T := M.One mb) (by (repeat with_reducible first | exact Only.refl _ _ | refine M.Only.drewN ?_ _ | refine Only.drew ?_ | refine Only.setOne ?_ _ _)) ho3 (fun _ _ h => h)) (fun _ _ h => h)
        have H3 := Lib.hid hB3
        have H4 := Lib.hid ho4
        clear hB3 ho3 ho4
        go_wp2_with fail
        go_ret
        rw [HREC.out]
        exact ddid_some ⟨rfl, H4.out, HM.out.own H4.out H3.out rfl rfl rfl⟩
end Go.Proofs.Ythimhbfglgnohaa

/- The document's machine's instructions that reckon, part e. -/
set_option linter.unusedSimpArgs false
set_option linter.unusedVariables false
namespace Go.Proofs.Ythimhbfglgnohaa
open Go.RowKit M
variable {Q : Nat → Prop}
attribute [local go_sem ↓] Go.wp_at_zero Go.wp_at_succ

set_option maxRecDepth 20000 in
set_option maxHeartbeats 6400000 in
theorem dreg_e (mb wb : Nat) (ob : Option Nat) (code : List Nat) (F : Int) (u v : Bool) (a b c o : Nat) (m : Int) (h1 : -2147483648 ≤ m) (h2 : m ≤ 2147483647) (ha : a < 16) (hb : b < 16) (hc : c < 16) (hF : F = 0 ∨ F = 1) (cv iv ov : Value) (s : St) (w : World) (hs : s.Ok) (hM : DAt Q w mb wb ob code s cv iv ov) {N : Nat} (hN : opnd s ⟨F, u, v, a, b, c, o, m⟩ = N) {k : Nat} (hk : (if u && s.c then 1 else 0 : Nat) = k) {B : Nat} (hB : s.R b = B) (hN32 : N < 4294967296) (hO : o = 10) :
    Calls Try.prog 34 #[.pointer (some ⟨mb, 0, none⟩), ic F u v a b c o m] w fun e w' => DDid Q w mb wb ob code cv iv ov e w' (reckon s ⟨F, u, v, a, b, c, o, m⟩) := by
  have hk1 : k ≤ 1 := by rw [← hk]; split <;> omega
  have hB32 : B < 4294967296 := by rw [← hB]; exact hs.reg b hb
  have hX1 := S_i32 B hB32
  have hY1 := S_i32 N hN32
  have eX := w32_nat B hB32
  have eY := w32_nat N hN32
  have HNN := Lib.hid hN
  have HKK := Lib.hid hk
  have HBB := Lib.hid hB
  obtain ⟨X, hX⟩ : ∃ X, S B = X := ⟨_, rfl⟩
  obtain ⟨Y, hY⟩ : ∃ Y, S N = Y := ⟨_, rfl⟩
  rw [hX] at eX hX1
  rw [hY] at eY hY1
  have HXX := Lib.hid hX
  have HYY := Lib.hid hY
  have HI32 : Hid (I32 X ∧ I32 Y) := Lib.hid ⟨hX1, hY1⟩
  unfold I32 at hX1 hY1
  have HEX := Lib.hid eX
  have HEY := Lib.hid eY
  have cB := (hM.1.cell (2 + b)).trans (dcells_reg cv _ iv ov s hb)
  have cC := (hM.1.cell (2 + c)).trans (dcells_reg cv _ iv ov s hc)
  rw [hB] at cB
  have hlt := hM.1.lt
  have b0 : (0 : Int) ≤ (b : Int) := Int.natCast_nonneg _
  have b1 : (b : Int) < 16 := by omega
  have c0 : (0 : Int) ≤ (c : Int) := Int.natCast_nonneg _
  have c1 : (c : Int) < 16 := by omega
  have i1 := insAt (w := w) (F := F) (u := u) (v := v) (a := a) (b := b) (c := c) (o := o) (m := m) (Only.refl Nil (w.alloc (.cells (icz F u v a b c o m) 49)))
  have HI := Lib.hid i1
  have hoa : Only Nil w (w.alloc (.cells (icz F u v a b c o m) 49)) := (Only.refl Nil w).alloc _
  have HOA := Lib.hid hoa
  have hN0 : F = 0 → s.R c = N := fun h => by rw [← hN]; unfold opnd; rw [if_pos h]; simp
  have hN1 : F = 1 → v = false → m % 4294967296 = (N : Int) := fun h h' => by rw [← hN]; unfold opnd U; rw [if_neg (by simp [h]), h', if_neg (by simp)]; simp only; omega
  have hN2 : F = 1 → v = true → (m % 4294967296 - 65536) % 4294967296 = (N : Int) := fun h h' => by rw [← hN]; unfold opnd U; rw [if_neg (by simp [h]), h', if_pos rfl]; simp only; omega
  have hN3 : F = 1 → v = true → (m - 65536) % 4294967296 = (N : Int) := fun h h' => by have := hN2 h h'; omega
  have HN0 := Lib.hid hN0
  have HN1 := Lib.hid hN1
  have HN2 := Lib.hid hN2
  have HN3 := Lib.hid hN3
  obtain ⟨sc, hsc⟩ : ∃ sc, s.c = sc := ⟨_, rfl⟩
  rw [hsc] at hk
  obtain ⟨tt, htt⟩ : ∃ tt, (u && sc) = tt := ⟨_, rfl⟩
  rw [htt] at hk
  have HTT := Lib.hid htt
  have HK := Lib.hid hk
  have HSC := Lib.hid hsc
  have HM := Lib.hid hM
  have HF := Lib.hid hF
  have HS := Lib.hid hs
  have cc : w.cell? ⟨mb, 21, none⟩ = some (.bool s.c) := hM.1.cell 21
  rw [hsc] at cc
  have HCC := Lib.hid cc
  obtain ⟨Rc, hRc⟩ : ∃ Rc, s.R c = Rc := ⟨_, rfl⟩
  rw [hRc] at cC
  have HRC := Lib.hid hRc
  have HCB := Lib.hid cB
  have HCC2 := Lib.hid cC
  have HOP := Lib.hid hO
  unfold ic
  clear i1 hN0 hN1 hN2 hN3 hk hM hF hs hN hX hY hB hRc hsc cc cC hoa hO htt eX eY
  go_enter Try.func34, Try.ntmps34
  go_wp2_with fail
  go_quiet (fail)
  have hoA : Only Nil w (World.drewN (w.alloc (.cells #[.int .i64 F, .bool u, .bool v, .int .i64 a, .int .i64 b, .int .i64 c, .int .i64 o, .int .i32 m] 49)) nq) := M.Only.drewN HOA.out nq
  have i2 := HI.out
  unfold InsAt at i2
  obtain ⟨wA, hwA⟩ : ∃ wA, World.drewN (w.alloc (.cells #[.int .i64 F, .bool u, .bool v, .int .i64 a, .int .i64 b, .int .i64 c, .int .i64 o, .int .i32 m] 49)) nq = wA := ⟨_, rfl⟩
  have x0 : wA.cell? ⟨w.heap.size, 0, none⟩ = some (.int .i64 F) := by rw [← hwA]; exact i2.1
  have x1 : wA.cell? ⟨w.heap.size, 1, none⟩ = some (.bool u) := by rw [← hwA]; exact i2.2.1
  have x2 : wA.cell? ⟨w.heap.size, 2, none⟩ = some (.bool v) := by rw [← hwA]; exact i2.2.2.1
  have x3 : wA.cell? ⟨w.heap.size, 3, none⟩ = some (.int .i64 a) := by rw [← hwA]; exact i2.2.2.2.1
  have x5 : wA.cell? ⟨w.heap.size, 5, none⟩ = some (.int .i64 c) := by rw [← hwA]; exact i2.2.2.2.2.2.1
  have x6 : wA.cell? ⟨w.heap.size, 6, none⟩ = some (.int .i64 o) := by rw [← hwA]; exact i2.2.2.2.2.2.2.1
  have x7 : wA.cell? ⟨w.heap.size, 7, none⟩ = some (.int .i32 m) := by rw [← hwA]; exact i2.2.2.2.2.2.2.2.1
  rw [hwA] at hoA ⊢
  have yC := hoA.cell HCC2.out (fun h => h)
  have yc := hoA.cell HCC.out (fun h => h)
  have hMA := HM.out.quiet hoA
  have hltA := hMA.1.lt
  have HMA := Lib.hid hMA
  have HO := Lib.hid hoA
  obtain ⟨ib, hib⟩ : ∃ ib, w.heap.size = ib := ⟨_, rfl⟩
  have hneq : ib ≠ mb := by omega
  rw [hib] at x0 x1 x2 x3 x5 x6 x7 ⊢
  clear hwA i2 hMA hoA cB hib
  go_wp2_with fail
  go_quiet (fail)
  go_upto_if 35 with fail
  go_cut [6] (fun s6 wx => s6 = .int .u32 N ∧ wx = wA.drewN nq)
  case first =>
    rcases HF.out with h0 | h0
    · have e1 : (F == 1) = false := by rw [h0]; rfl
      have hNR : Rc = N := by rw [← HRC.out]; exact HN0.out h0
      clear h0
      go_wp2_with fail
      go_meet
      exact ⟨by rw [hNR], rfl⟩
    · have e1 : (F == 1) = true := by rw [h0]; rfl
      cases hv : v
      · have e2 := HN1.out h0 hv
        subst hv
        clear h0
        go_wp2_with fail
        go_meet
        exact ⟨rfl, rfl⟩
      · have e2 := HN2.out h0 hv
        have e3 := HN3.out h0 hv
        subst hv
        clear h0
        go_wp2_with fail
        go_meet
        exact ⟨rfl, rfl⟩
  case rest =>
    obtain ⟨rfl, rfl⟩ := hcut
    go_upto_region 10 with fail
    go_cut [54] (fun s54 wx => s54 = .bool tt ∧ wx = wA.drewN nq)
    case first =>
      have ht := HTT.out
      clear HMA HM HSC HK HTT
      cases u
      · go_wp2_with fail
        go_meet
        exact ⟨by first | rfl | exact congrArg Value.bool ht, rfl⟩
      · go_wp2_with fail
        go_meet
        exact ⟨by first | rfl | exact congrArg Value.bool ((Bool.true_and sc).symm.trans ht), rfl⟩
    case rest =>
     obtain ⟨rfl, rfl⟩ := hcut
     go_upto_if 54 with fail
     go_cut [10] (fun s10 wx => s10 = .int .u64 k ∧ wx = wA.drewN nq)
     case first =>
      have hk := HK.out
      clear HMA HM HSC HK HTT
      cases tt
      · have hk0 : (k : Int) = 0 := by rw [← hk]; rfl
        go_wp2_with fail
        go_meet
        exact ⟨by first | rfl | exact congrArg (Value.int .u64) hk0.symm, rfl⟩
      · have hk0 : (k : Int) = 1 := by rw [← hk]; rfl
        go_wp2_with fail
        go_meet
        exact ⟨by first | rfl | exact congrArg (Value.int .u64) hk0.symm, rfl⟩
     case rest =>
      obtain ⟨rfl, rfl⟩ := hcut
      obtain ⟨w1, hw1⟩ : ∃ w1, wA.drewN nq = w1 := ⟨_, rfl⟩
      have ho01 : Only Nil wA w1 := hw1 ▸ M.Only.drewN (Only.refl _ _) nq
      have z0 := ho01.cell x0 (fun h => h)
      have z1 := ho01.cell x1 (fun h => h)
      have z2 := ho01.cell x2 (fun h => h)
      have z3 := ho01.cell x3 (fun h => h)
      have z5 := ho01.cell x5 (fun h => h)
      have z6 := ho01.cell x6 (fun h => h)
      have z7 := ho01.cell x7 (fun h => h)
      have hM1 := HMA.out.quiet ho01
      have ho1 := HO.out.trans ho01 (fun _ _ h => h)
      have hlt1 := hM1.1.lt
      have HM1 := Lib.hid hM1
      have HO1 := Lib.hid ho1
      rw [hw1]
      clear x0 x1 x2 x3 x5 x6 x7 hw1 ho01 hM1 ho1 HMA HO hltA
      have yH : w1.cell? ⟨mb, 18, none⟩ = some (.int .u32 s.H) := HM1.out.1.cell 18
      have fH := HM1.out.1.free 18
      have y21 : w1.cell? ⟨mb, 21, none⟩ = some (.bool s.c) := HM1.out.1.cell 21
      have f21 := HM1.out.1.free 21
      have y22 : w1.cell? ⟨mb, 22, none⟩ = some (.bool s.v) := HM1.out.1.cell 22
      have f22 := HM1.out.1.free 22
      clear yC yc HN0 HN1 HN2 HN3 HTT HK HI HOA HRC HCB HCC HCC2
      rcases HOP.out with rfl
      · cases u
        · obtain ⟨q, hq⟩ : ∃ q, X * Y = q := ⟨_, rfl⟩
          have hq1 := mul_s X Y HI32.out.1 HI32.out.2
          rw [hq] at hq1
          obtain ⟨rr, hrr'⟩ : ∃ rr, U q = rr := ⟨_, rfl⟩
          have hrr : rr < 4294967296 := by rw [← hrr']; exact U_lt _
          have e2 : IntKind.u64.wrap q % 4294967296 = (rr : Int) := low_s hrr'
          have hrec := reckon_10s HNN.out HBB.out HXX.out HYY.out hq hrr'
          have HREC := Lib.hid hrec
          have HE1 : Hid (IntKind.u64.wrap q / 4294967296 % 4294967296 = ((U (q / 4294967296) : Nat) : Int)) := Lib.hid (high_s q)
          clear hrec hrr' y21 f21 y22 f22
          simp only [HEX.out, HEY.out]
          have cS := fun (w2 : World) (h2 : Blk w2 mb (dcells cv (.slice (some ⟨wb, 0, none⟩) s.mem.length s.mem.length) iv ov { s with H := U (q / 4294967296) }) 68) => dset_any mb a rr cv (.slice (some ⟨wb, 0, none⟩) s.mem.length s.mem.length) iv ov { s with H := U (q / 4294967296) } w2 h2 ha hrr
          have HCS := Lib.hid cS
          clear cS
          go_wp2_with fail
          refine (HCS.out _ (M.Blk.of (HM1.out.1.setCell 18 _) (by rw [HE1.out, dcells_H]))).mono ?_
          rintro e w3 ⟨rfl, hB3, ho3⟩
          have ho4 : Only (M.One mb) w w3 := (HO1.out.mono (T := M.One mb) (fun _ h => h.elim)).trans (Only.trans (T := M.One mb) (by (repeat with_reducible first | exact Only.refl _ _ | refine M.Only.drewN ?_ _ | refine Only.drew ?_ | refine Only.setOne ?_ _ _)) ho3 (fun _ _ h => h)) (fun _ _ h => h)
          have H3 := Lib.hid hB3
          have H4 := Lib.hid ho4
          clear hB3 ho3 ho4
          go_wp2_with fail
          go_ret
          rw [HREC.out]
          exact ddid_some ⟨rfl, H4.out, HM.out.own H4.out H3.out rfl rfl rfl⟩
        · obtain ⟨p, hp⟩ : ∃ p, B * N = p := ⟨_, rfl⟩
          have hp1 : p < 18446744073709551616 := by rw [← hp]; exact mul_u B N hB32 hN32
          have hp2 : (B : Int) * (N : Int) = (p : Int) := by rw [← hp]; rfl
          obtain ⟨q, hq⟩ : ∃ q, X * Y = q := ⟨_, rfl⟩
          have hq1 := mul_s X Y HI32.out.1 HI32.out.2
          rw [hq] at hq1
          obtain ⟨rr, hrr'⟩ : ∃ rr, p % 4294967296 = rr := ⟨_, rfl⟩
          have hrr : rr < 4294967296 := by rw [← hrr']; exact Nat.mod_lt _ (by decide)
          have e1 : (p : Int) % 4294967296 = (rr : Int) := low_cast hrr'
          have hrec := reckon_10u HNN.out HBB.out hp hrr'
          have HREC := Lib.hid hrec
          have HE1 : Hid ((p : Int) / 4294967296 % 4294967296 = ((p / 4294967296 : Nat) : Int)) := Lib.hid (high_cast hp1)
          have HE2 : Hid ((p : Int) / 4294967296 = ((p / 4294967296 : Nat) : Int)) := Lib.hid (high_cast2 p)
          clear hrec hrr' hp y21 f21 y22 f22
          simp only [HEX.out, HEY.out]
          have cS := fun (w2 : World) (h2 : Blk w2 mb (dcells cv (.slice (some ⟨wb, 0, none⟩) s.mem.length s.mem.length) iv ov { s with H := p / 4294967296 }) 68) => dset_any mb a rr cv (.slice (some ⟨wb, 0, none⟩) s.mem.length s.mem.length) iv ov { s with H := p / 4294967296 } w2 h2 ha hrr
          have HCS := Lib.hid cS
          clear cS
          go_wp2_with fail
          refine (HCS.out _ (M.Blk.of (HM1.out.1.setCell 18 _) (by first | rw [HE1.out, dcells_H] | rw [HE2.out, dcells_H] | rw [← dcells_H]; rfl))).mono ?_
          rintro e w3 ⟨rfl, hB3, ho3⟩
          have ho4 : Only (M.One mb) w w3 := (HO1.out.mono (T := M.One mb) (fun _ h => h.elim)).trans (Only.trans (T := M.One mb) (by (repeat with_reducible first | exact Only.refl _ _ | refine M.Only.drewN ?_ _ | refine Only.drew ?_ | refine Only.setOne ?_ _ _)) ho3 (fun _ _ h => h)) (fun _ _ h => h)
          have H3 := Lib.hid hB3
          have H4 := Lib.hid ho4
          clear hB3 ho3 ho4
          go_wp2_with fail
          go_ret
          rw [HREC.out]
          exact ddid_some ⟨rfl, H4.out, HM.out.own H4.out H3.out rfl rfl rfl⟩
end Go.Proofs.Ythimhbfglgnohaa

