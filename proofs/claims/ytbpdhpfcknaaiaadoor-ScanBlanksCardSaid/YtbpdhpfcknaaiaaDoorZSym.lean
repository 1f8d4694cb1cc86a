/- Symbols: any symbol, the program's. -/
import Derived.Test.YtbpdhpfcknaaiaaDoorZNumb
import Derived.Test.YtbpdhpfcknaaiaaDoorZText
import Derived.Test.YtbpdhpfcknaaiaaDoorZSign
set_option linter.unusedSimpArgs false
set_option linter.unusedVariables false
namespace Go.Proofs.YtbpdhpfcknaaiaaDoor
open Go.RowKit M

/-- What symbol tells: at the end, that it is there. -/
def symI (t : Txt) : Except Nat Tk := if t.n = 0 then .ok ⟨0, 0, 0, 0, 0, 0⟩ else symS t 0

theorem symV_parts (s : ByteArray) (r : Except Nat Tk) : ∃ (k p f : Int) (z : ByteArray) (v u : Int), symV s r = .tuple #[.agg #[.int .i64 k, .int .i64 p, .int .i64 f, .string z, .int .i32 v], .int .i64 u] := by
  cases r with
  | ok x => exact ⟨_, _, _, _, _, 0, rfl⟩
  | error e => exact ⟨0, 0, 0, ⟨#[]⟩, 0, e, rfl⟩

set_option maxRecDepth 10000 in
set_option maxHeartbeats 1600000 in
theorem symbol_any (s : ByteArray) (n : Nat) (hn : s.size = n) (hb : n ≤ 1000000) (w : World) :
    Calls Tryd.prog 17 #[.string s] w fun e w' => e = .returned (symV s (symI (tx s))) ∧ Only Nil w w' := by
  have e1 : (tx s).n = n := hn
  by_cases h0 : n = 0
  · have hs : s = ⟨#[]⟩ := by
      apply ByteArray.ext; apply Array.toList_inj.1; apply List.eq_nil_of_length_eq_zero; rw [size_list, hn, h0]
    have hI : symI (tx s) = .ok ⟨0, 0, 0, 0, 0, 0⟩ := by unfold symI; rw [if_pos (by rw [e1, h0])]
    rw [hI]
    clear hI e1 hn
    subst hs
    go_enter Tryd.func17, Tryd.ntmps17
    go_wp2_with fail
    refine bodyPost_ret (results_row_tmp rfl _ _ w.heap.size 35 _ (0, 0) _ _ rfl rfl (Blk.new w _ _) Tryd.underlying35 rfl (by kernel_rfl)) rfl ?_
    exact ⟨retTok (s := ⟨#[]⟩) (x := ⟨0, 0, 0, 0, 0, 0⟩) rfl, (Only.refl _ _).alloc _⟩
  · have hn0 : 0 < n := by omega
    have hse : s.toList.isEmpty = false := by
      have h1 : s.toList.length = n := by rw [Lib.toList_data, size_list, hn]
      cases h2 : s.toList with
      | nil => rw [h2] at h1; simp at h1; omega
      | cons x l => rfl
    have hI : symI (tx s) = symS (tx s) 0 := by unfold symI; rw [if_neg (by rw [e1]; exact h0)]
    rw [hI]
    have hR : symS (tx s) 0 = if letB (bt s 0) then namS (tx s) 0 else if digB (bt s 0) then numS (tx s) 0 else if bt s 0 = 34 then quoS (tx s) 0 else sigS (tx s) 0 := rfl
    obtain ⟨R, hRR⟩ : ∃ R, symS (tx s) 0 = R := ⟨_, rfl⟩
    rw [hRR] at hR ⊢
    obtain ⟨vk, vp, vf, vz, vn, vu, hv⟩ := symV_parts s R
    clear hI e1
    have ix := fun w => ix_lit s n 0 0 rfl hn hn0 w
    have n0 : (0 : Int) < (n : Int) := by omega
    have cL := fun w => isLetter_any (bt s 0) w
    have cD := fun w => isDigit_any (bt s 0) w
    have cN := fun h w => name_any s n hn hn0 hb h w
    have cM := fun h w => number_any s n hn hn0 hb h w
    have cT := fun w => text_any s n hn hn0 hb w
    have cS := fun w => sign_any s n hn hn0 hb w
    obtain ⟨c, hc⟩ : ∃ c, bt s 0 = c := ⟨_, rfl⟩
    rw [hc] at ix cL cD cN cM hR
    clear hc
    obtain ⟨q, hq⟩ : ∃ q, letB c = q := ⟨_, rfl⟩
    obtain ⟨r, hr⟩ : ∃ r, digB c = r := ⟨_, rfl⟩
    rw [hq] at cL cN hR
    rw [hr] at cD cM hR
    rw [hv]
    clear hq hr
    go_enter Tryd.func17, Tryd.ntmps17
    go_wp2_with fail
    have hB0 := Blk.new w #[Value.int .i64 0, .int .i64 0, .int .i64 0, .string ⟨#[]⟩, .int .i32 0] 35
    have ho0 : Only Nil w (w.alloc (.cells #[Value.int .i64 0, .int .i64 0, .int .i64 0, .string ⟨#[]⟩, .int .i32 0] 35)) := (Only.refl _ _).alloc _
    obtain ⟨w1, hw1⟩ : ∃ w1, w.alloc (.cells #[Value.int .i64 0, .int .i64 0, .int .i64 0, .string ⟨#[]⟩, .int .i32 0] 35) = w1 := ⟨_, rfl⟩
    rw [hw1] at hB0 ho0 ⊢
    obtain ⟨rb, hrb⟩ : ∃ rb, w.heap.size = rb := ⟨_, rfl⟩
    rw [hrb] at hB0 ⊢
    clear hw1
    refine (cL _).mono ?_
    rintro e wq ⟨rfl, rfl⟩
    cases q
    · rw [if_neg (by decide)] at hR
      go_wp2_with fail
      refine (cD _).mono ?_
      rintro e wq ⟨rfl, rfl⟩
      cases r
      · rw [if_neg (by decide)] at hR
        by_cases g : c = 34
        · rw [if_pos g] at hR
          rw [← hR, hv] at cT
          have g' : ((c : Int) == 34) = true := by rw [g]; rfl
          clear hR g cN cM cS cL cD
          go_wp2_with fail
          refine (cT _).mono ?_
          rintro e w2 ⟨rfl, ho2⟩
          have hB2 := hB0.kept ho2 (fun h => h)
          obtain ⟨⟨z0, z1, z2, z3, z4⟩, y0, y1, y2, y3, y4⟩ := hB2.five
          have HO := Lib.hid (ho0.trans ho2 (fun _ _ h => h))
          clear ho0 ho2 hB0
          go_wp2_with fail
          refine bodyPost_ret (results_row_tmp rfl _ _ rb 35 _ (0, 0) _ _ rfl rfl (hB2.put5 _ _ _ _ _) Tryd.underlying35 rfl (by kernel_rfl)) rfl ?_
          exact ⟨rfl, HO.out.put5 (Nat.le_of_eq hrb) _ _ _ _ _⟩
        · rw [if_neg g] at hR
          rw [← hR, hv] at cS
          have g' : ((c : Int) == 34) = false := not_beq (by omega)
          clear hR g cN cM cT cL cD
          go_wp2_with fail
          refine (cS _).mono ?_
          rintro e w2 ⟨rfl, ho2⟩
          have hB2 := hB0.kept ho2 (fun h => h)
          obtain ⟨⟨z0, z1, z2, z3, z4⟩, y0, y1, y2, y3, y4⟩ := hB2.five
          have HO := Lib.hid (ho0.trans ho2 (fun _ _ h => h))
          clear ho0 ho2 hB0
          go_wp2_with fail
          refine bodyPost_ret (results_row_tmp rfl _ _ rb 35 _ (0, 0) _ _ rfl rfl (hB2.put5 _ _ _ _ _) Tryd.underlying35 rfl (by kernel_rfl)) rfl ?_
          exact ⟨rfl, HO.out.put5 (Nat.le_of_eq hrb) _ _ _ _ _⟩
      · rw [if_pos rfl] at hR
        replace cM := cM rfl
        rw [← hR, hv] at cM
        clear hR cN cT cS cL cD
        go_wp2_with fail
        refine (cM _).mono ?_
        rintro e w2 ⟨rfl, ho2⟩
        have hB2 := hB0.kept ho2 (fun h => h)
        obtain ⟨⟨z0, z1, z2, z3, z4⟩, y0, y1, y2, y3, y4⟩ := hB2.five
        have HO := Lib.hid (ho0.trans ho2 (fun _ _ h => h))
        clear ho0 ho2 hB0
        go_wp2_with fail
        refine bodyPost_ret (results_row_tmp rfl _ _ rb 35 _ (0, 0) _ _ rfl rfl (hB2.put5 _ _ _ _ _) Tryd.underlying35 rfl (by kernel_rfl)) rfl ?_
        exact ⟨rfl, HO.out.put5 (Nat.le_of_eq hrb) _ _ _ _ _⟩
    · rw [if_pos rfl] at hR
      replace cN := cN rfl
      rw [← hR, hv] at cN
      clear hR cM cT cS cL cD
      go_wp2_with fail
      refine (cN _).mono ?_
      rintro e w2 ⟨rfl, ho2⟩
      have hB2 := hB0.kept ho2 (fun h => h)
      obtain ⟨⟨z0, z1, z2, z3, z4⟩, y0, y1, y2, y3, y4⟩ := hB2.five
      have HO := Lib.hid (ho0.trans ho2 (fun _ _ h => h))
      clear ho0 ho2 hB0
      go_wp2_with fail
      refine bodyPost_ret (results_row_tmp rfl _ _ rb 35 _ (0, 0) _ _ rfl rfl (hB2.put5 _ _ _ _ _) Tryd.underlying35 rfl (by kernel_rfl)) rfl ?_
      exact ⟨rfl, HO.out.put5 (Nat.le_of_eq hrb) _ _ _ _ _⟩
end Go.Proofs.YtbpdhpfcknaaiaaDoor
