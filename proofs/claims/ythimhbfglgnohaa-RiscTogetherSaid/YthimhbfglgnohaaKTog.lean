/- The walk of the law RiscTogether. -/
import Derived.Test.YthimhbfglgnohaaKWord
import Derived.Test.YthimhbfglgnohaaKEcho
set_option linter.unusedSimpArgs false
set_option linter.unusedVariables false
namespace Go.Proofs.Ythimhbfglgnohaa
open Go.RowKit M

/-- An instruction of few numbers, as the laws are handed it. -/
structure LIns where
  F : Nat
  A : Nat
  B : Nat
  C : Nat
  O : Nat
  u : Bool
  v : Bool
  m : Int
instance lIns_any : Inhabited LIns := ⟨⟨0, 0, 0, 0, 0, false, false, 0⟩⟩
def LIns.cells (i : LIns) : Array Value := #[.int .u8 i.F, .int .u8 i.A, .int .u8 i.B, .int .u8 i.C, .int .u8 i.O, .bool i.u, .bool i.v, .int .i16 i.m]
def LIns.Ok (i : LIns) : Prop := i.F < 256 ∧ i.A < 256 ∧ i.B < 256 ∧ i.C < 256 ∧ i.O < 256 ∧ -32768 ≤ i.m ∧ i.m ≤ 32767
def LRow (w : World) (b off : Nat) (L : List LIns) : Prop := ∀ (k : Nat) (i : LIns), L[k]? = some i → i.Ok ∧ ∀ j, j < 8 → w.cell? ⟨b, off + k * 8 + j, none⟩ = i.cells[j]?
theorem LRow.kept {S : Nat → Prop} {w w' : World} {b off : Nat} {L : List LIns} (h : LRow w b off L) (ho : Only S w w') (hS : ¬ S b) : LRow w' b off L := by
  intro k i hk
  refine ⟨(h k i hk).1, fun j hj => ?_⟩
  have h1 := (h k i hk).2 j hj
  have hi : j < i.cells.size := hj
  rw [Array.getElem?_eq_getElem hi] at h1 ⊢
  exact ho.cell h1 hS

/-- A machine that waits while another one runs. -/
theorem MAt.waits {wc w5 w' : World} {S : Nat → Prop} {mb wb : Nat} {code : List Nat} {s : St} {cv iv ov : Value} (h : MAt (fun k => k < wc.heap.size) w5 mb wb none code s cv iv ov) (hm : wc.heap.size ≤ mb) (hw : wc.heap.size ≤ wb) (ho : Only S w5 w')
    (hS : ∀ k, S k → k < wc.heap.size ∨ w5.heap.size ≤ k) : MAt Nil w' mb wb none code s cv iv ov := by
  have h1 := h.1.lt
  have h2 := h.2.1.lt
  have hl := h.less (T := fun k => k < wc.heap.size ∨ w5.heap.size ≤ k) (fun k hk h => h.elim id (fun h => absurd hk (by omega)))
  exact (hl.apart ho (fun h => by rcases hS _ h with h | h <;> omega) (fun h => by rcases hS _ h with h | h <;> omega) nofun hS).less (fun _ _ h => h.elim)

set_option maxRecDepth 20000 in
set_option maxHeartbeats 3200000 in
theorem together_any (b off : Nat) (ao : Option Addr) (n cap : Nat) (L : List LIns) (bi : Nat) (ai : Option Addr) (ni ci : Nat) (B : List Nat) (fa fb : Nat) (w : World) (hr : LRow w b off L) (hn : L.length = n) (ha : 0 < n → ao = some ⟨b, off, none⟩)
    (hs : Src w bi (.slice ai ni ci) (U8s B)) (hl : B.length = ni) (hB : ∀ x ∈ B, x < 256) (hfa : fa ≤ 255) (hfb : fb ≤ 255) :
    Calls Try.prog 5 #[.slice ao n cap, .slice ai ni ci, .int .u8 fa, .int .u8 fb] w fun e w' => e = .returned (.bool true) ∧ Only Nil w w' := by
  have cK := known_any w
  obtain ⟨i0, hi, hz0, hz1, hz2⟩ := info_parts infoU32
  by_cases h40 : 40 < n
  · have h40' : (40 : Int) < (n : Int) := by omega
    clear hr ha hs hl hB
    go_enter Try.func5, Try.ntmps5
    go_wp2_with fail
    refine cK.mono ?_
    rintro e w1 ⟨rfl, ho1⟩
    clear cK
    go_wp2_with fail
    go_ret
    exact ⟨rfl, ho1⟩
  · have h40' : (n : Int) ≤ 40 := by omega
    by_cases h20 : 20 < ni
    · have h20' : (20 : Int) < (ni : Int) := by omega
      clear hr ha hs hl hB
      go_enter Try.func5, Try.ntmps5
      go_wp2_with fail
      refine cK.mono ?_
      rintro e w1 ⟨rfl, ho1⟩
      clear cK
      go_wp2_with fail
      go_ret
      exact ⟨rfl, ho1⟩
    · have h20' : (ni : Int) ≤ 20 := by omega
      have HR := Lib.hid hr
      have HN := Lib.hid hn
      have HA := Lib.hid ha
      have HS := Lib.hid hs
      have HL := Lib.hid hl
      have HB := Lib.hid hB
      clear hr hn ha hs hl hB
      go_enter Try.func5, Try.ntmps5
      go_wp2_with fail
      refine cK.mono ?_
      rintro e w1 ⟨rfl, ho1⟩
      clear cK
      go_wp2_with fail
      go_loopg [9, 10] n (fun m t i wr => ∃ ws : List Ins, m ≤ n ∧ i = .int .i64 ((n - m : Nat) : Int) ∧ (∀ x ∈ ws, x.Good) ∧ ws.length = n - m ∧ wr.ownsRow w.heap.size 26 1 t (n - m) (U32s (ws.map enc)) ∧ Only Nil w wr)
      case atStart => exact ⟨[], Nat.le_refl _, by simp, nofun, by simp, by simpa [U32s] using World.ownsRow_nil _ _ _ _, ho1⟩
      case round =>
        clear ho1
        obtain ⟨ws, hm, rfl, hgood, hwl, hown, ho⟩ := hrel
        obtain ⟨m, rfl⟩ : ∃ m, m = gk := ⟨gk, rfl⟩
        obtain ⟨k, hk⟩ : ∃ k, n - m = k := ⟨_, rfl⟩
        rw [hk] at hown hwl ⊢
        have hkn : k ≤ n := by omega
        have HK := Lib.hid hk
        have HWS := Lib.hid hgood
        have HWL := Lib.hid hwl
        clear hk hgood hwl
        by_cases hkl : k < n
        · have hkl2 : k < L.length := by rw [HN.out]; exact hkl
          have hat : L[k]? = some L[k] := List.getElem?_eq_getElem hkl2
          obtain ⟨y, hy⟩ : ∃ y, L[k] = y := ⟨_, rfl⟩
          rw [hy] at hat
          have hao := HA.out (by omega)
          obtain ⟨hyk, hyc⟩ := (HR.out.kept ho (fun h => h)) k y hat
          have r0 := hyc 0 (by decide)
          have r1 := hyc 1 (by decide)
          have r2 := hyc 2 (by decide)
          have r3 := hyc 3 (by decide)
          have r4 := hyc 4 (by decide)
          have r5 := hyc 5 (by decide)
          have r6 := hyc 6 (by decide)
          have r7 := hyc 7 (by decide)
          obtain ⟨q1, q2, q3, q4, q5, q6, q7⟩ := hyk
          have cW := fun w => word_of y.F y.A y.B y.C y.O y.u y.v y.m w q1 q2 q3 q4 q5 q6 q7
          obtain ⟨F, A, Bx, C, O, u, v, mm⟩ := y
          unfold LIns.cells at r0 r1 r2 r3 r4 r5 r6 r7
          simp only [List.getElem?_toArray, List.getElem?_cons_zero, List.getElem?_cons_succ, Nat.add_zero] at r0 r1 r2 r3 r4 r5 r6 r7 cW
          subst hao
          have hsz := ho.size
          have k0 : (0 : Int) ≤ (k : Int) := Int.natCast_nonneg _
          have k1 : (k : Int) < (n : Int) := by omega
          clear hy hat hyc q1 q2 q3 q4 q5 q6 q7
          go_wp2_with fail
          refine (cW _).mono ?_
          rintro e w2 ⟨x, hxg, rfl, ho2⟩
          clear cW
          have hsz2 := ho2.size
          have hown2 : w2.ownsRow w.heap.size 26 1 u9 k (U32s (ws.map enc)) := ownsRow_only hown ho2 (fun _ _ h => h)
          have hown3 := hown2
          clear r0 r1 r2 r3 r4 r5 r6 r7 hown
          go_wp2_with (with_reducible refine wpList_append_one rfl _ _ 25 rfl w.heap.size 26 i0 (.int .u32 0) 4 Try.underlying25 hi hz0 hz1 hz2 rfl _ _ _ rfl hown3 _ rfl rfl ?c1 ?c2 ?c3 ?_)
          case c1 => simp [maxLen]; omega
          case c2 => omega
          case c3 => omega
          intro g cap2 w3 hown4 hc4 hc5 hg4 ho4
          have ho5 : Only Nil w w3 := (ho.trans ho2 (fun _ _ h => h)).nil_own hown2 ho4
          clear hown2 hown3 ho4 ho2 ho hsz hsz2 hg4
          go_wp2_with fail
          go_roundg (m - 1)
          case measure => have := HK.out; omega
          case rel =>
            refine ⟨ws ++ [x], by omega, by have := HK.out; go_num, ?_, ?_, ?_, ho5⟩
            · intro z hz
              rcases List.mem_append.1 hz with hz | hz
              · exact HWS.out z hz
              · rw [List.mem_singleton.1 hz]; exact hxg
            · rw [List.length_append, HWL.out, List.length_singleton]; have := HK.out; omega
            · rw [show n - (m - 1) = k + 1 by have := HK.out; omega, List.map_append, List.map_cons, List.map_nil]
              simpa [U32s] using hown4
        · have hkl2 : k = n := by omega
          subst hkl2
          obtain ⟨code, hcode⟩ : ∃ code, ws.map enc = code := ⟨_, rfl⟩
          have hcl : code.length = k := by rw [← hcode, List.length_map, HWL.out]
          have hclt : ∀ x ∈ code, x < 4294967296 := by rw [← hcode]; exact map_lt HWS.out
          rw [hcode] at hown
          have HCLT := Lib.hid hclt
          have HCL := Lib.hid hcl
          clear hcode hclt hcl
          obtain ⟨s, hs⟩ : ∃ s, s0 16 B = s := ⟨_, rfl⟩
          have hsok : s.Ok := by rw [← hs]; exact s0_ok 16 B (by decide) HB.out
          have hsout : s.out.length = 0 := by rw [← hs]; rfl
          obtain ⟨t1, ht1⟩ : ∃ t, M.run code fa s = t := ⟨_, rfl⟩
          obtain ⟨t2, ht2⟩ : ∃ t, M.run code fb t1 = t := ⟨_, rfl⟩
          have ht12 : M.run code (fa + fb) s = t2 := by rw [run_add, ht1, ht2]
          have hcl0 : code.length ≤ 1048576 := by have := HCL.out; omega
          have ok1 := run_ok HCLT.out hcl0 fa hsok
          rw [ht1] at ok1
          have HT1 := Lib.hid ht1
          have HT2 := Lib.hid ht2
          have HT12 := Lib.hid ht12
          have HOK1 := Lib.hid ok1
          have HSO := Lib.hid hsout
          have HSE := Lib.hid hs
          clear ht1 ht2 ht12 ok1 hsout hs
          have hsB := HS.out.kept ho (fun _ h => h)
          have cN1 := new_any (Q := Nil) code B 16 16 (by decide) (u9.ownBlock.getD 0) bi u9 (.slice ai ni ci) wr (Src.of_own hown) hsB hcl0 (by have := HL.out; omega) (by decide) (fun _ h => h.elim)
          go_wp2_with fail
          refine cN1.mono ?_
          rintro e w4 ⟨mb1, wb1, cv1, iv1, rfl, hmb1, hwb1, ho4, hM1⟩
          clear cN1
          rw [HSE.out] at hM1
          have hown4 := ownsRow_only hown ho4 (fun _ _ h => h)
          have cN2 := new_any (Q := fun k => k < w4.heap.size) code B 16 16 (by decide) (u9.ownBlock.getD 0) bi u9 (.slice ai ni ci) w4 (Src.of_own hown4) (hsB.kept ho4 (fun _ h => h)) hcl0 (by have := HL.out; omega) (by decide) (fun _ h => h)
          go_wp2_with fail
          refine cN2.mono ?_
          rintro e w5 ⟨mb2, wb2, cv2, iv2, rfl, hmb2, hwb2, ho5, hM2⟩
          clear cN2 hown hown4 hsB
          rw [HSE.out] at hM2
          have lm1 := hM1.1.lt
          have lw1 := hM1.2.1.lt
          have hM1' := hM1.quiet ho5
          have hw5 : Only Nil w w5 := (ho.trans ho4 (fun _ _ h => h)).trans ho5 (fun _ _ h => h)
          have gm1 : w.heap.size ≤ mb1 := Nat.le_trans ho.size hmb1
          have gw1 : w.heap.size ≤ wb1 := Nat.le_trans ho.size hwb1
          have g45 := ho5.size
          have gm2 : w.heap.size ≤ mb2 := by omega
          have gw2 : w.heap.size ≤ wb2 := by omega
          have cR1 := run_any mb1 wb1 none code cv1 iv1 (.slice none 0 0) s w5 hsok HCLT.out hcl0 hM1' (fa : Int) (by omega) (by omega) (by rw [HSO.out, Int.toNat_natCast]; omega) (t := t1) (by rw [Int.toNat_natCast]; exact HT1.out)
          clear hM1 hM1' ho4 ho5 ho
          go_wp2_with fail
          refine cR1.mono ?_
          rintro e w6 ⟨ob1, iv1', ov1, rv0, rfl, hw6, hown6, hM16⟩
          clear cR1 hown6
          have hob1 := went_ob hw6 (Nat.le_refl _)
          have g56 := hw6.1.size
          have cR2 := run_any mb1 wb1 ob1 code cv1 iv1' ov1 t1 w6 HOK1.out.1 HCLT.out hcl0 hM16 (fb : Int) (by omega) (by omega) (by rw [Int.toNat_natCast]; have h1 := HOK1.out.2.2; have h2 := HSO.out; omega) (t := t2) (by rw [Int.toNat_natCast]; exact HT2.out)
          clear hM16
          go_wp2_with fail
          refine cR2.mono ?_
          rintro e w7 ⟨ob1', iv1'', ov1', rv1, rfl, hw7, hown7, hM17⟩
          clear cR2
          have hS57 : Only (Own3 mb1 wb1 none) w5 w7 := (hw6.trans hw7).1
          have hM27 := MAt.waits hM2 hmb2 hwb2 hS57 (fun k h => by
            rcases h with h | h | h
            · left; omega
            · left; omega
            · cases h)
          have lm2 := hM2.1.lt
          have lw2 := hM2.2.1.lt
          have hsum : ((fa : Int) + (fb : Int)).toNat = fa + fb := by omega
          have cR3 := run_any mb2 wb2 none code cv2 iv2 (.slice none 0 0) s w7 hsok HCLT.out hcl0 hM27 ((fa : Int) + (fb : Int)) (by omega) (by omega) (by rw [HSO.out, hsum]; omega) (t := t2) (by rw [hsum]; exact HT12.out)
          have g67 := hw7.1.size
          have hw57 : Only Nil w w7 := hw5.trans hS57 (fun i hi h => by
            rcases h with h | h | h
            · exact absurd hi (by omega)
            · exact absurd hi (by omega)
            · cases h)
          clear hM2 hM27 hsum
          go_wp2_with fail
          refine cR3.mono ?_
          rintro e w8 ⟨ob2, iv2', ov2, rv2, rfl, hw8, hown8, hM28⟩
          clear cR3
          have hown78 := ownsRow_only hown7 hw8.1 (fun k hk h => by
            obtain ⟨q1, q2⟩ := own_lt hown7 hk
            rcases h with h | h | h
            · omega
            · omega
            · cases h)
          have hB1 := hM17.1.kept hw8.1 (fun h => by
            rcases h with h | h | h
            · omega
            · omega
            · cases h)
          have hO8 : Only Nil w w8 := went_fresh hw57 hw8 gm2 gw2
          have cH := helpResult_same _ _ rv1 rv2 t2.out t2.fin t2.trap w8 (Src.of_own hown78) (Src.of_own hown8)
          have cP1 := fun (w' : World) (ho : Only Nil w8 w') => pc_any mb1 cv1 _ iv1'' ov1' t2 w' (hB1.kept ho (fun h => h))
          have cP2 := fun (w' : World) (ho : Only Nil w8 w') => pc_any mb2 cv2 _ iv2' ov2 t2 w' (hM28.1.kept ho (fun h => h))
          have HO := Lib.hid hO8
          clear hown7 hown8 hown78 hM17 hM28 hB1 hw6 hw7 hw8 hS57 hw57 hw5 hO8
          go_wp2_with fail
          refine cH.mono ?_
          rintro e w9 ⟨rfl, ho9⟩
          clear cH
          go_wp2_with fail
          refine (cP1 _ ho9).mono ?_
          rintro e w10 ⟨rfl, rfl⟩
          clear cP1
          go_wp2_with fail
          refine (cP2 _ ho9).mono ?_
          rintro e w10 ⟨rfl, rfl⟩
          clear cP2
          go_wp2_with fail
          go_ret
          exact ⟨by simp, HO.out.trans ho9 (fun _ _ h => h)⟩
end Go.Proofs.Ythimhbfglgnohaa
